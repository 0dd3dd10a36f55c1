// Package address: the families, their addresses, and which prefixes are good.
package address

import "waymark/api"

const (
	width4 = 32
	width6 = 128
	// halfWidth is how many bits Lo holds, below those of Hi.
	halfWidth = 64
)

// Width tells how many bits the addresses of a family have: 0, if it is none.
func Width(family int) int {
	switch family {
	case api.V4:
		return width4
	case api.V6:
		return width6
	}
	return 0
}

// Check tells what is wrong with a prefix: OK, if it is good.
func Check(p api.Prefix) api.Errno {
	width := Width(p.Addr.Family)
	if width == 0 {
		return api.ErrFamily
	}
	if p.Len < 0 || p.Len > width {
		return api.ErrLen
	}
	if !fits(p.Addr) {
		return api.ErrAddr
	}
	if Cut(p.Addr, p.Len) != p.Addr {
		return api.ErrAddr
	}
	return api.OK
}

// Cut makes all bits of an address behind the first length ones 0. The length is one of the address's family.
func Cut(a api.Addr, length int) api.Addr {
	behind := Width(a.Family) - length
	a.Lo = clearLowest(a.Lo, behind)
	a.Hi = clearLowest(a.Hi, behind-halfWidth)
	return a
}

// fits tells whether no bit stands above those of the address's family.
func fits(a api.Addr) bool {
	if a.Family == api.V4 {
		return a.Hi == 0 && a.Lo>>width4 == 0
	}
	return true
}

// clearLowest makes the lowest count bits 0: none, if count is below 1, all, if it is above 63.
func clearLowest(x uint64, count int) uint64 {
	// A shift by a number below 0 would panic.
	if count < 1 {
		return x
	}
	return x >> uint(count) << uint(count)
}
