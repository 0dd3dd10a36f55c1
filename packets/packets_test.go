package packets

import (
	"strings"
	"testing"

	"waymark/api"
)

func TestChecksum(t *testing.T) {
	for _, c := range []struct {
		text string
		want int
	}{
		{"", 65535},
		{"\x00\x00", 65535},
		{"\x00\x01", 65534},
		{"\x01\x00", 65279},
		{"\xff\xff", 0},
		{"\x12\x34\x56\x78", 65535 - 0x68ac},
		{"\x80\x00\x80\x00", 65534},
		{"\xff\xff\xff\xff", 0},
		// Folded once it is 65536, folded twice 1.
		{"\xff\xff\xff\xff\x00\x01", 65534},
		{"\xff\xff\xff\xff\x00\x02", 65533},
		// With a 0 behind an odd number of bytes.
		{"\x01", 65279},
		{"\x00\x01\xff", 65535 - 0xff01},
		{strings.Repeat("\xff", 65536), 0},
		{strings.Repeat("\xff", 65535), 255},
	} {
		if got := checksum(c.text); got != c.want {
			t.Errorf("checksum(%.40x) = %d, want %d", c.text, got, c.want)
		}
	}
}

// Also what Read tells beside a reason can be asked all that a packet can.
func TestPacketsOfNoughts(t *testing.T) {
	p, reason := Read("no packet")
	if p != (Packet{}) || reason != api.TooShort {
		t.Errorf("Read = %+v, %d, want nothing, TooShort", p, reason)
	}
	if p.CanGoOn() || !p.MayBeAnswered() || p.Flow() != 0 || p.Target() != (api.Addr{Family: api.V4}) || p.Text() != strings.Repeat("\x00", 20) {
		t.Errorf("a packet of noughts tells %v, %v, %d, %+v, %x", p.CanGoOn(), p.MayBeAnswered(), p.Flow(), p.Target(), p.Text())
	}
	if len(p.Older()) != 20 || len(p.Answer(0, api.NoRoute)) != 48 {
		t.Errorf("a packet of noughts becomes %x and %x", p.Older(), p.Answer(0, api.NoRoute))
	}
}
