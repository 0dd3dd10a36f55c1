// Package packets: packets of V4: what is wrong with them, what they tell, and what goes out for them.
package packets

import "waymark/api"

// Packet: a packet without a fault: its head, and the bytes behind it within its length.
type Packet struct {
	head head
	body string
}

// Read reads a packet, or tells the first fault for which it is dropped: NoReason, if there is none.
func Read(text string) (Packet, int) {
	if len(text) < headLength {
		return Packet{}, api.TooShort
	}
	var h head
	for i := 0; i < len(h); i++ {
		h[i] = text[i]
	}
	reason := h.fault(len(text))
	if reason != api.NoReason {
		return Packet{}, reason
	}
	// That the length is neither below the head's nor above the text's is among the faults.
	length := h.length()
	return Packet{head: h, body: text[headLength:length]}, api.NoReason
}

// Text tells the whole packet.
func (p Packet) Text() string {
	return p.head.text() + p.body
}

// Target tells the address that the packet goes to.
func (p Packet) Target() api.Addr {
	return api.Addr{Family: api.V4, Lo: p.head.target()}
}

// Flow tells the number by which packets between the same two, of the same protocol, go the same way.
func (p Packet) Flow() uint64 {
	source := p.head.source()
	target := p.head.target()
	protocol := uint64(p.head[protocolAt])
	return source<<32 ^ target ^ protocol<<56
}

// CanGoOn tells whether the packet has life left for one more hop.
func (p Packet) CanGoOn() bool {
	return p.head[lifeAt] > 1
}

// Older tells the whole packet as it goes on to its next hop. It has life left for that.
func (p Packet) Older() string {
	h := p.head
	h[lifeAt]--
	h = h.sealed()
	return h.text() + p.body
}
