package packets

import "waymark/api"

const (
	headLength = 20
	// Version 4, and a head of 5 times 4 bytes: no other packets are taken.
	version  = 4
	quarters = 5
)

// Where the numbers of a head stand: those of several bytes begin there, the high byte first.
const (
	lengthAt   = 2
	partAt     = 6
	lifeAt     = 8
	protocolAt = 9
	sumAt      = 10
	sourceAt   = 12
	targetAt   = 16
)

// head: the bytes of a head. As an array it has all of them, so that none has to be looked for first.
type head [headLength]byte

// fault tells the first reason for which a packet with this head and so many bytes is dropped.
func (h head) fault(size int) int {
	if h[0]>>4 != version {
		return api.BadVersion
	}
	if h[0]&15 != quarters {
		return api.BadHeader
	}
	length := h.length()
	if length < headLength || length > size {
		return api.BadLength
	}
	text := h.text()
	if checksum(text) != 0 {
		return api.BadSum
	}
	if isMartian(h[sourceAt]) {
		return api.Martian
	}
	if isMartian(h[targetAt]) {
		return api.Martian
	}
	return api.NoReason
}

// isMartian tells whether no packet may come from or go to addresses with this first byte.
func isMartian(first byte) bool {
	return first == 0 || first == 127 || first > 223
}

func (h head) text() string {
	return string(h[:])
}

func (h head) length() int {
	return int(h[lengthAt])<<8 | int(h[lengthAt+1])
}

// part tells where in the whole a part of a packet stands: 0, if it is the first part, or the whole.
func (h head) part() int {
	return (int(h[partAt])<<8 | int(h[partAt+1])) & 0x1fff
}

func (h head) source() uint64 {
	return join(h[sourceAt], h[sourceAt+1], h[sourceAt+2], h[sourceAt+3])
}

func (h head) target() uint64 {
	return join(h[targetAt], h[targetAt+1], h[targetAt+2], h[targetAt+3])
}

func join(a, b, c, d byte) uint64 {
	return uint64(a)<<24 | uint64(b)<<16 | uint64(c)<<8 | uint64(d)
}

// sealed tells the head with a checksum by which its own is 0. It is never 65535, as the first byte of a head is not 0.
func (h head) sealed() head {
	h[sumAt] = 0
	h[sumAt+1] = 0
	text := h.text()
	sum := checksum(text)
	h[sumAt] = byte(sum >> 8)
	h[sumAt+1] = byte(sum)
	return h
}

// checksum tells the checksum of bytes: if their number is odd, with a 0 behind them.
func checksum(text string) int {
	sum := 0
	for i := 0; i < len(text); i++ {
		if i%2 == 0 {
			sum += int(text[i]) << 8
		} else {
			sum += int(text[i])
		}
	}
	for sum > 65535 {
		sum = sum>>16 + sum&65535
	}
	return 65535 - sum
}
