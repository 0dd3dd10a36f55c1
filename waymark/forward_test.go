package waymark_test

import (
	"encoding/hex"
	"math"
	"math/rand"
	"strings"
	"testing"

	"waymark/api"
)

// forwarder: 10.0.0.0/8 goes by the hop 7, 10.9.0.0/16 by the hop 0, 11.0.0.0/8 by eight hops; 99.0.0.1 has no route.
func forwarder(t *testing.T, seed uint64) router {
	t.Helper()
	x := newRouter(t, seed, 0xc0a80101)
	mustGroup(t, x.Table, 0, 7)
	mustGroup(t, x.Table, 1, 0)
	mustGroup(t, x.Table, 2, 1, 2, 3, 0, 5, 65535, 7, 8)
	mustPut(t, x.Table, "10.0.0.0/8", 0)
	mustPut(t, x.Table, "10.9.0.0/16", 1)
	mustPut(t, x.Table, "11.0.0.0/8", 2)
	return x
}

const (
	toHop  = 0x0a000002
	toHome = 0x0a090001
	toMany = 0x0b000001
	toNone = 0x63000001
)

func dropped(reason int) api.Verdict {
	return api.Verdict{Kind: api.Dropped, Reason: reason}
}

// unhex: the bytes of a text in base 16, in which spaces stand to be read more easily.
func unhex(t *testing.T, text string) string {
	t.Helper()
	b, err := hex.DecodeString(strings.ReplaceAll(text, " ", ""))
	if err != nil {
		t.Fatal(err)
	}
	return string(b)
}

// The packets were reckoned outside of this program: from 192.168.1.5 to 8.8.8.8, the own address 192.168.1.1.
func TestP11KnownPackets(t *testing.T) {
	const (
		addresses = " c0a80105 08080808 "
		carried   = "04d2 0035 000b 0000"
		fresh     = "4510 001f beef 4000 4011 aa11" + addresses + carried
		last      = "4510 001f beef 4000 0111 e911" + addresses + carried
		odd       = "4500 0017 0000 0000 0111 e819" + addresses + "616263"
		answer    = "4500 0038 0000 0000 4001 f76e c0a80101 c0a80105 "
	)
	x := newRouter(t, 1, 0xc0a80101)
	x.mustJudge(t, unhex(t, fresh+"616263"), api.Verdict{Kind: api.Answered, Reason: api.NoRoute, Out: unhex(t, answer+"0300 f7ed 0000 0000"+fresh)})
	mustGroup(t, x.Table, 0, 443)
	mustPut(t, x.Table, "8.0.0.0/7", 0)
	x.mustJudge(t, unhex(t, fresh+"616263"), api.Verdict{Kind: api.Forwarded, Hop: 443, Out: unhex(t, "4510 001f beef 4000 3f11 ab11"+addresses+carried+"616263")})
	x.mustJudge(t, unhex(t, last+"616263"), api.Verdict{Kind: api.Answered, Reason: api.Expired, Out: unhex(t, answer+"0b00 efed 0000 0000"+last)})
	x.mustJudge(t, unhex(t, odd), api.Verdict{Kind: api.Answered, Reason: api.Expired, Out: unhex(t, "4500 0033 0000 0000 4001 f773 c0a80101 c0a80105 0b00 309d 0000 0000"+odd)})
	mustGroup(t, x.Table, 1, 0)
	mustPut(t, x.Table, "8.8.8.8/32", 1)
	x.mustJudge(t, unhex(t, last+"616263 99"), api.Verdict{Kind: api.Delivered, Out: unhex(t, last+"616263")})
}

func TestP11TooShort(t *testing.T) {
	x := forwarder(t, 1)
	for _, s := range []string{common.made(), strings.Repeat("\x00", 20), strings.Repeat("\xff", 20)} {
		for n := range 20 {
			x.mustJudge(t, s[:n], dropped(api.TooShort))
		}
	}
	p := common
	p.body = ""
	x.check(t, p.made(), api.Forwarded, api.NoReason)
	x.check(t, p.made()+"x", api.Forwarded, api.NoReason)
}

func TestP11VersionAndHeader(t *testing.T) {
	x := forwarder(t, 1)
	for first := range 256 {
		p := common
		p.first = byte(first)
		p.body = strings.Repeat("body", 20)
		switch {
		case first>>4 != 4:
			x.mustJudge(t, p.made(), dropped(api.BadVersion))
		case first != 0x45:
			x.mustJudge(t, p.made(), dropped(api.BadHeader))
		default:
			x.check(t, p.made(), api.Forwarded, api.NoReason)
		}
	}
}

func TestP11Length(t *testing.T) {
	x := forwarder(t, 1)
	for _, size := range []int{20, 21, 27, 28, 29, 255, 256, 257, 1500, 65535, 65536, 70000} {
		for _, length := range []int{0, 1, 18, 19, 20, 21, 28, size - 1, size, size + 1, size + 256, 0x1400, 65535} {
			if length < 0 || length > 65535 {
				continue
			}
			p := common
			p.body = strings.Repeat("b", size-20)
			p.length = length
			if length < 20 || length > size {
				x.mustJudge(t, p.made(), dropped(api.BadLength))
				continue
			}
			for _, target := range []uint32{toHop, toHome, toNone} {
				p.target = target
				s := p.made()
				v := x.Forward(s)
				x.mustJudge(t, s, x.judged(s))
				if target != toNone && len(v.Out) != length {
					t.Fatalf("of %d bytes with the length %d: %d bytes go out", size, length, len(v.Out))
				}
				if want := 48 + min(length-20, 8); target == toNone && len(v.Out) != want {
					t.Fatalf("to a packet of %d bytes with the length %d: %d bytes are answered, want %d", size, length, len(v.Out), want)
				}
			}
		}
	}
}

// both: the parcel with an id by which the rest of its head comes to 65535 by itself: 0 and 65535 are right checksums of it.
func both(p parcel) parcel {
	for p.id = 0; p.made()[10:12] != "\x00\x00"; p.id++ {
	}
	return p
}

func TestP11EveryChecksum(t *testing.T) {
	x := forwarder(t, 1)
	for _, c := range []struct {
		p    parcel
		want int
	}{{common, 1}, {both(common), 2}} {
		right := 0
		for sum := range 65536 {
			s := c.p.summed(sum)
			want := x.judged(s)
			if want.Kind == api.Forwarded {
				right++
			}
			x.mustJudge(t, s, want)
		}
		if right != c.want {
			t.Errorf("with the id %d there are %d right checksums, want %d", c.p.id, right, c.want)
		}
	}
}

func TestP11ChecksumsOfNoughtThatComeIn(t *testing.T) {
	x := forwarder(t, 1)
	home := common
	home.target = toHome
	for _, sum := range []int{0, 65535} {
		p := both(common)
		s := p.summed(sum)
		p.life--
		x.mustJudge(t, s, api.Verdict{Kind: api.Forwarded, Hop: 7, Out: p.made()})
		s = both(home).summed(sum)
		x.mustJudge(t, s, api.Verdict{Kind: api.Delivered, Out: s})
		for _, one := range lost() {
			s = both(one).summed(sum)
			v := x.Forward(s)
			x.mustJudge(t, s, x.judged(s))
			if v.Kind != api.Answered || v.Out[28:] != s[:28] {
				t.Errorf("to %x: %+v", s, v)
			}
		}
	}
}

func TestP11EveryWrongBit(t *testing.T) {
	x := forwarder(t, 1)
	s := common.made()
	for i := range 8 * len(s) {
		b := []byte(s)
		b[i/8] ^= 1 << (i % 8)
		v := x.Forward(string(b))
		if i < 160 && (v.Kind != api.Dropped || v.Reason > api.BadSum || v.Hop != 0 || v.Out != "") {
			t.Errorf("with bit %d wrong: %+v", i, v)
		}
		x.mustJudge(t, string(b), x.judged(string(b)))
	}
}

// Two numbers of the head that change places leave the sum as it is.
func TestP11ChecksumIsASum(t *testing.T) {
	x := forwarder(t, 1)
	b := []byte(common.made())
	b[4], b[5], b[6], b[7] = b[6], b[7], b[4], b[5]
	x.check(t, string(b), api.Forwarded, api.NoReason)
	b[4], b[5] = b[5], b[4]
	b[6], b[7] = b[7], b[6]
	x.mustJudge(t, string(b), dropped(api.BadSum))
}

func TestP11Martians(t *testing.T) {
	x := forwarder(t, 1)
	mustPut(t, x.Table, "0.0.0.0/0", 0)
	bad := 0
	for first := range uint32(256) {
		for _, rest := range []uint32{0, 1, 0xffffff} {
			source, target, two := common, common, common
			source.source = first<<24 | rest
			target.target = first<<24 | rest
			two.source, two.target = first<<24|rest, first<<24|rest
			for _, p := range []parcel{source, target, two} {
				if first == 0 || first == 127 || first > 223 {
					x.mustJudge(t, p.made(), dropped(api.Martian))
					bad++
				} else if v := x.Forward(p.made()); v.Reason != api.NoReason || v != x.judged(p.made()) {
					t.Fatalf("from %x to %x: %+v", p.source, p.target, v)
				}
			}
		}
	}
	if bad != 34*9 {
		t.Errorf("%d packets were Martian", bad)
	}
}

// faulty: a packet to which all rules apply whose bits are set: bit 0 is rule 1's, bit 8 is rule 9's.
func faulty(rules int) string {
	p := common
	has := func(rule int) bool { return rules&(1<<(rule-1)) != 0 }
	if has(2) {
		p.first = p.first&15 | 0x60
	}
	if has(3) {
		p.first = p.first&0xf0 | 6
	}
	if has(4) {
		p.length = 33
	}
	if has(6) {
		p.source = 0x7f000001
	}
	if has(8) {
		p.target = toHome
	}
	// A target has a route or none: to rule 7 rule 8 can't apply as well, but a target by the hop 0 could be told ahead of it.
	if has(7) {
		p.target = toNone
	}
	if has(9) {
		p.life = 1
	}
	s := p.made()
	if has(5) {
		s = s[:10] + string([]byte{s[10] ^ 1}) + s[11:]
	}
	if has(1) {
		s = s[:19]
	}
	return s
}

func TestP11FirstRuleThatApplies(t *testing.T) {
	x := forwarder(t, 1)
	verdicts := [][2]int{{api.Dropped, api.TooShort}, {api.Dropped, api.BadVersion}, {api.Dropped, api.BadHeader}, {api.Dropped, api.BadLength}, {api.Dropped, api.BadSum}, {api.Dropped, api.Martian}, {api.Answered, api.NoRoute}, {api.Delivered, api.NoReason}, {api.Answered, api.Expired}, {api.Forwarded, api.NoReason}}
	for rules := range 512 {
		first := 0
		for first < 9 && rules&(1<<first) == 0 {
			first++
		}
		x.check(t, faulty(rules), verdicts[first][0], verdicts[first][1])
	}
}

func TestP11DeliveredWhateverItsLife(t *testing.T) {
	x := forwarder(t, 1)
	for _, life := range []byte{0, 1, 2, 64, 255} {
		for _, part := range []int{0, 1, 0x1fff, 0xffff} {
			for _, protocol := range []byte{1, 17} {
				p := common
				p.target, p.life, p.part, p.protocol, p.body = toHome, life, part, protocol, "\x03bc"
				s := p.made()
				x.mustJudge(t, s, api.Verdict{Kind: api.Delivered, Out: s})
				x.mustJudge(t, s+"behind", api.Verdict{Kind: api.Delivered, Out: s})
			}
		}
	}
}

func TestP11EveryLife(t *testing.T) {
	x := forwarder(t, 1)
	for life := range 256 {
		p := common
		p.life = byte(life)
		s := p.made()
		if life < 2 {
			x.check(t, s, api.Answered, api.Expired)
			continue
		}
		p.life--
		x.mustJudge(t, s, api.Verdict{Kind: api.Forwarded, Hop: 7, Out: p.made()})
		x.mustJudge(t, s+"behind", api.Verdict{Kind: api.Forwarded, Hop: 7, Out: p.made()})
	}
}

func TestP11HopsOfNoughtAndOthers(t *testing.T) {
	for _, hop := range []int{0, 1, 7, 256, 65535} {
		x := newRouter(t, 3, 1)
		mustGroup(t, x.Table, 0, hop)
		mustPut(t, x.Table, "0.0.0.0/0", 0)
		v := x.Forward(common.made())
		if v.Hop != hop || (v.Kind == api.Delivered) != (hop == 0) || (v.Kind == api.Forwarded) != (hop != 0) {
			t.Errorf("by the hop %d: %+v", hop, v)
		}
	}
}

// folds tells how often the sum of bytes is folded till it is below 65536.
func folds(s string) int {
	sum, n := 0, 0
	for i := range len(s) {
		sum += int(s[i]) << (8 * (1 - i%2))
	}
	for ; sum > 65535; n++ {
		sum = sum/65536 + sum%65536
	}
	return n
}

// Through all ids each checksum comes out, and so do sums that are folded more than once.
func TestP11ChecksumsThatComeOut(t *testing.T) {
	x := forwarder(t, 1)
	seen, twice := map[string]bool{}, 0
	for _, source := range []uint32{0x0a000001, 0xdfffffff} {
		p := common
		p.source = source
		p.body = ""
		for p.id = range 65536 {
			s := p.made()
			x.check(t, s, api.Forwarded, api.NoReason)
			out := x.Forward(s).Out
			seen[out[10:12]] = true
			if folds(out[:10]+out[12:20]) > 1 {
				twice++
			}
		}
	}
	if seen["\xff\xff"] || !seen["\x00\x00"] || len(seen) != 65535 || twice == 0 {
		t.Errorf("%d checksums came out, %d sums were folded twice", len(seen), twice)
	}
}

// Through two bytes of the source and of the body all checksums of answers come out.
func TestP11ChecksumsOfAnswers(t *testing.T) {
	x := forwarder(t, 1)
	for _, target := range []uint32{toNone, toHop} {
		heads, messages, twice := map[string]bool{}, map[string]bool{}, 0
		for n := range 65536 {
			p := common
			p.target, p.life = target, 1
			p.source = 0xdfff0000 | uint32(n)
			p.body = string([]byte{byte(n), byte(n >> 8), 0xff})
			s := p.made()
			x.mustJudge(t, s, x.judged(s))
			out := x.Forward(s).Out
			heads[out[10:12]] = true
			messages[out[22:24]] = true
			if folds(out[20:22]+out[24:]) > 1 {
				twice++
			}
		}
		if heads["\xff\xff"] || messages["\xff\xff"] || !heads["\x00\x00"] || !messages["\x00\x00"] || twice == 0 {
			t.Errorf("%d and %d checksums came out, %d sums were folded twice", len(heads), len(messages), twice)
		}
	}
}

func TestP11WhatIsAnswered(t *testing.T) {
	for _, own := range []uint32{0, 1, 0x0a0000fe, 0x7f000001, 0xc0a80101, math.MaxUint32} {
		x := newRouter(t, 1, own)
		mustGroup(t, x.Table, 0, 7)
		mustPut(t, x.Table, "10.0.0.0/8", 0)
		for size := 20; size <= 64; size++ {
			for _, behind := range []string{"", "x", "behind it"} {
				p := common
				p.body = "abcdefghijklmnopqrstuvwxyzabcdefghijklmnopqrstuvwxyz"[:size-20]
				p.life = 1
				x.check(t, p.made()+behind, api.Answered, api.Expired)
				p.life = 0
				x.check(t, p.made()+behind, api.Answered, api.Expired)
				p.target = toNone
				x.check(t, p.made()+behind, api.Answered, api.NoRoute)
				p.life = 64
				x.check(t, p.made()+behind, api.Answered, api.NoRoute)
				if n := len(x.Forward(p.made() + behind).Out); n != 28+min(size, 28) {
					t.Fatalf("to a packet of %d bytes: %d bytes are answered", size, n)
				}
			}
		}
		p := common
		p.body = strings.Repeat("abc", 21838) + "d"
		p.life = 1
		x.check(t, p.made(), api.Answered, api.Expired)
	}
}

// An answer is a packet itself, which a table takes.
func TestP11AnswersArePackets(t *testing.T) {
	x := forwarder(t, 1)
	mustPut(t, x.Table, "10.0.0.1/32", 1)
	p := common
	p.target = toNone
	out := x.Forward(p.made()).Out
	x.mustJudge(t, out, api.Verdict{Kind: api.Delivered, Out: out})
	mustTake(t, x.Table, "10.0.0.1/32")
	x.check(t, out, api.Forwarded, api.NoReason)
	mustTake(t, x.Table, "10.0.0.0/8")
	x.mustJudge(t, out, dropped(api.NoRoute))
}

// lost: packets that find no route, and such whose life ends.
func lost() []parcel {
	astray, last := common, common
	astray.target = toNone
	last.life = 1
	return []parcel{astray, last}
}

func TestP11MessagesThatAreNotAnswered(t *testing.T) {
	x := forwarder(t, 1)
	for i, p := range lost() {
		reason := []int{api.NoRoute, api.Expired}[i]
		p.protocol = 1
		for first := range 256 {
			for _, rest := range []string{"", "a", "abcdefg", "abcdefgh", "abcdefghi"} {
				for _, behind := range []string{"", "\x00", "\x08"} {
					p.body = string([]byte{byte(first)}) + rest
					if first == 0 || first == 8 {
						x.check(t, p.made()+behind, api.Answered, reason)
					} else {
						x.mustJudge(t, p.made()+behind, dropped(reason))
					}
				}
			}
			// What lies behind the length is no byte 20 of the packet.
			p.body = ""
			x.check(t, p.made()+string([]byte{byte(first)})+"behind", api.Answered, reason)
		}
		p.body = ""
		x.check(t, p.made(), api.Answered, reason)
	}
}

func TestP11OtherProtocolsAreAnswered(t *testing.T) {
	x := forwarder(t, 1)
	for i, p := range lost() {
		for protocol := range 256 {
			if protocol == 1 {
				continue
			}
			p.protocol = byte(protocol)
			for _, body := range []string{"", "\x03", "\x0b", "\x00", "\x08abcdefgh"} {
				p.body = body
				x.check(t, p.made(), api.Answered, []int{api.NoRoute, api.Expired}[i])
			}
		}
	}
}

func TestP11PartsThatAreNotAnswered(t *testing.T) {
	x := forwarder(t, 1)
	for i, p := range lost() {
		reason := []int{api.NoRoute, api.Expired}[i]
		for upper := range 8 {
			p.part = upper << 13
			x.check(t, p.made(), api.Answered, reason)
			for bit := range 13 {
				p.part = upper<<13 | 1<<bit
				x.mustJudge(t, p.made(), dropped(reason))
				p.part = upper<<13 | 0x1fff ^ 1<<bit
				x.mustJudge(t, p.made(), dropped(reason))
			}
			p.part = upper<<13 | 0x1fff
			x.mustJudge(t, p.made(), dropped(reason))
		}
	}
}

// Whether it would be answered does not matter to a packet that goes on.
func TestP11PartsAndMessagesGoOn(t *testing.T) {
	x := forwarder(t, 1)
	for _, part := range []int{1, 0x1fff, 0x2000, 0xffff} {
		p := common
		p.part, p.protocol, p.body = part, 1, "\x03abc"
		x.check(t, p.made(), api.Forwarded, api.NoReason)
	}
}

func TestP11Flow(t *testing.T) {
	r := rand.New(rand.NewSource(13))
	for _, seed := range flows {
		x := forwarder(t, seed)
		seen := map[int]bool{}
		for range 200 {
			p := common
			p.source = (1+uint32(r.Intn(126)))<<24 | uint32(r.Intn(1<<24))
			if r.Intn(2) == 0 {
				p.source |= 1 << 31
				p.source &= 0xdfffffff
			}
			if p.source>>24 == 127 {
				p.source = 0x80000001
			}
			p.target = toMany + uint32(r.Intn(1<<23))
			p.protocol = byte(r.Intn(256))
			s := p.made()
			x.mustJudge(t, s, x.judged(s))
			hop := x.Forward(s).Hop
			seen[hop] = true
			if want, e := x.Pick(api.Addr{Family: api.V4, Lo: uint64(p.target)}, uint64(p.source)<<32^uint64(p.target)^uint64(p.protocol)<<56); hop != want || e != api.OK {
				t.Fatalf("by the hop %d, and Pick tells %d, %d", hop, want, e)
			}
			// Nothing else is of the flow.
			p.service, p.id, p.part, p.life, p.body = p.service+1, 999, 77, 200, "other"
			if other := x.Forward(p.made()).Hop; other != hop {
				t.Fatalf("of one flow: by the hops %d and %d", hop, other)
			}
		}
		if len(seen) != 8 {
			t.Errorf("with the seed %d these hops alone were told: %v", seed, seen)
		}
	}
}

func TestP11BehindChanges(t *testing.T) {
	x := forwarder(t, 1)
	p := common
	p.target = toNone
	s := p.made()
	x.check(t, s, api.Answered, api.NoRoute)
	mustPut(t, x.Table, "99.0.0.0/8", 0)
	x.check(t, s, api.Forwarded, api.NoReason)
	mustPut(t, x.Table, "99.0.0.0/16", 1)
	x.check(t, s, api.Delivered, api.NoReason)
	mustFail(t, x.Table, 2, api.ErrKind, take(t, "99.0.0.0/16"), take(t, "99.0.0.0/8"), api.Change{})
	x.check(t, s, api.Delivered, api.NoReason)
	mustBatch(t, x.Table, take(t, "99.0.0.0/16"), put(t, "99.0.0.0/24", 2))
	x.check(t, s, x.judged(s).Kind, api.NoReason)
	mustTake(t, x.Table, "99.0.0.0/24")
	x.check(t, s, api.Forwarded, api.NoReason)
	mustTake(t, x.Table, "99.0.0.0/8")
	x.check(t, s, api.Answered, api.NoRoute)
	// A route of V6 is none for a packet of V4.
	mustPut(t, x.Table, "0:0:0:0:0:0:0:0/0", 0)
	x.check(t, s, api.Answered, api.NoRoute)
}

func TestP11StringsThatAreNoPackets(t *testing.T) {
	r := rand.New(rand.NewSource(14))
	for _, x := range []router{newRouter(t, 0, 0), forwarder(t, 1)} {
		for first := range 256 {
			for _, n := range []int{1, 19, 20, 21, 60, 9000} {
				s := strings.Repeat(string([]byte{byte(first)}), n)
				x.mustJudge(t, s, x.judged(s))
			}
		}
		for range 20000 {
			b := make([]byte, r.Intn(80))
			r.Read(b)
			if len(b) > 0 && r.Intn(2) == 0 {
				b[0] = 0x45
			}
			x.mustJudge(t, string(b), x.judged(string(b)))
		}
		for _, s := range []string{"10.0.0.0/8", strings.Repeat("\x00", 1<<24), strings.Repeat("E", 1<<24), strings.Repeat("\xff", 1<<24)} {
			want := dropped(wrong([]byte(s)))
			x.mustJudge(t, s, want)
		}
		long := common.made() + strings.Repeat("behind", 1<<22)
		x.mustJudge(t, long, x.judged(long))
	}
}
