// Package address: the families, their addresses, and which prefixes are good.
package address

import "waymark/api"

const (
	width4 = 32
	width6 = 128
	// MaxWidth is the greater of the two.
	MaxWidth = width6
	// halfWidth is how many bits Lo holds, below those of Hi.
	halfWidth = 64
)

// Width tells how many bits the addresses of a family have: 0, if it is none.
func Width(family int) int {
	switch family {
	case api.V4:
		return width4
	case api.V6:
		return width6
	}
	return 0
}

// Check tells what is wrong with a prefix: OK, if it is good.
func Check(p api.Prefix) api.Errno {
	e := CheckLength(p.Addr.Family, p.Len)
	if e != api.OK {
		return e
	}
	if Cut(p.Addr, p.Len) != p.Addr {
		return api.ErrAddr
	}
	return CheckAddress(p.Addr)
}

// CheckLength tells what is wrong with a length of a family: OK, if it is one.
func CheckLength(family, length int) api.Errno {
	width := Width(family)
	if width == 0 {
		return api.ErrFamily
	}
	if length < 0 || length > width {
		return api.ErrLen
	}
	return api.OK
}

// CheckAddress tells what is wrong with an address: OK, if it is one.
func CheckAddress(a api.Addr) api.Errno {
	if Width(a.Family) == 0 {
		return api.ErrFamily
	}
	if !fits(a) {
		return api.ErrAddr
	}
	return api.OK
}

// Contains tells whether the prefix p contains the prefix q. Both are good.
func Contains(p, q api.Prefix) bool {
	if p.Len > q.Len {
		return false
	}
	// Addresses of two families are never the same.
	return Cut(q.Addr, p.Len) == p.Addr
}

// Cut makes all bits of an address behind the first length ones 0. The length is one of the address's family.
func Cut(a api.Addr, length int) api.Addr {
	behind := Width(a.Family) - length
	a.Lo = clearLowest(a.Lo, behind)
	a.Hi = clearLowest(a.Hi, behind-halfWidth)
	return a
}

// fits tells whether no bit stands above those of the address's family.
func fits(a api.Addr) bool {
	if a.Family == api.V4 {
		return a.Hi == 0 && a.Lo>>width4 == 0
	}
	return true
}

// clearLowest makes the lowest count bits 0: none, if count is below 1, all, if it is above 63.
func clearLowest(x uint64, count int) uint64 {
	// A shift by a number below 0 would panic.
	if count < 1 {
		return x
	}
	return x >> uint(count) << uint(count)
}
