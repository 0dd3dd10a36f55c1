package packets

import "waymark/api"

const (
	// messages is the protocol that answers are of.
	messages   = 1
	answerLife = 64
	// quoteLength is how much of a packet its answer tells again.
	quoteLength = 28
)

// The kinds of messages.
const (
	messageEcho    = 0
	messageNoRoute = 3
	messageAsk     = 8
	messageExpired = 11
)

// MayBeAnswered tells whether an answer goes back if the packet can't go on. Of the parts of a packet the first alone is answered, so that there is one answer to all; and no message that tells of a fault is, so that no fault begets messages without end.
func (p Packet) MayBeAnswered() bool {
	if p.head.part() != 0 {
		return false
	}
	if p.head[protocolAt] != messages || len(p.body) == 0 {
		return true
	}
	return p.body[0] == messageEcho || p.body[0] == messageAsk
}

// Answer tells the packet that says to the source for which reason this one can't go on: NoRoute or Expired.
func (p Packet) Answer(own uint32, reason int) string {
	message := p.message(reason)
	length := headLength + len(message)
	var h head
	h[0] = version<<4 | quarters
	h[lengthAt] = byte(length >> 8)
	h[lengthAt+1] = byte(length)
	h[lifeAt] = answerLife
	h[protocolAt] = messages
	h[sourceAt] = byte(own >> 24)
	h[sourceAt+1] = byte(own >> 16)
	h[sourceAt+2] = byte(own >> 8)
	h[sourceAt+3] = byte(own)
	h[targetAt] = p.head[sourceAt]
	h[targetAt+1] = p.head[sourceAt+1]
	h[targetAt+2] = p.head[sourceAt+2]
	h[targetAt+3] = p.head[sourceAt+3]
	h = h.sealed()
	return h.text() + message
}

// message tells what stands behind the head of an answer.
func (p Packet) message(reason int) string {
	ahead := string([]byte{messageOf(reason), 0})
	behind := "\x00\x00\x00\x00" + p.quote()
	sum := checksum(ahead + "\x00\x00" + behind)
	return ahead + string([]byte{byte(sum >> 8), byte(sum)}) + behind
}

// messageOf tells the kind of message for a reason.
func messageOf(reason int) byte {
	if reason == api.Expired {
		return messageExpired
	}
	return messageNoRoute
}

// quote tells the first bytes of the packet, none of them behind its length.
func (p Packet) quote() string {
	body := p.body
	if len(body) > quoteLength-headLength {
		body = body[:quoteLength-headLength]
	}
	return p.head.text() + body
}
