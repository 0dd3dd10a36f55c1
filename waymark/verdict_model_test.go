package waymark_test

import (
	"encoding/binary"
	"math/big"
	"math/rand"
	"net/netip"
	"slices"
	"strings"
	"testing"

	"waymark/api"
	"waymark/waymark"
)

// restOf: what is left of bytes, as one great number, modulo 65535. As 65536 leaves 1, the sum of all numbers of two bytes leaves the same: of bytes that are not all 0, the checksum is 0 if nothing is left.
func restOf(b []byte) int {
	if len(b)%2 == 1 {
		b = append(slices.Clone(b), 0)
	}
	n := new(big.Int).SetBytes(b)
	return int(n.Mod(n, big.NewInt(65535)).Int64())
}

// seal lays at a place of bytes the checksum that they have with noughts there. They are not all 0.
func seal(b []byte, place int) {
	b[place], b[place+1] = 0, 0
	rest := restOf(b)
	if rest == 0 {
		// What is folded is not 0, as it was not: it is 65535.
		rest = 65535
	}
	binary.BigEndian.PutUint16(b[place:], uint16(65535-rest))
}

// parcel: the numbers of a packet.
type parcel struct {
	first, service byte
	// length: how many bytes there are, if it is below 0.
	length         int
	id, part       int
	life, protocol byte
	source, target uint32
	body           string
}

// common: from 10.0.0.1 to 10.0.0.2, with 12 bytes behind the head.
var common = parcel{first: 0x45, length: -1, id: 0x0102, life: 64, protocol: 17, source: 0x0a000001, target: 0x0a000002, body: "abcdefghijkl"}

// made tells the packet's bytes, with the right checksum.
func (p parcel) made() string {
	b := []byte{p.first, p.service}
	if p.length < 0 {
		p.length = 20 + len(p.body)
	}
	b = binary.BigEndian.AppendUint16(b, uint16(p.length))
	b = binary.BigEndian.AppendUint16(b, uint16(p.id))
	b = binary.BigEndian.AppendUint16(b, uint16(p.part))
	b = append(b, p.life, p.protocol, 0, 0)
	b = binary.BigEndian.AppendUint32(b, p.source)
	b = binary.BigEndian.AppendUint32(b, p.target)
	seal(b, 10)
	return string(b) + p.body
}

// summed tells the packet's bytes, with this in the place of its checksum.
func (p parcel) summed(sum int) string {
	s := p.made()
	return s[:10] + string([]byte{byte(sum >> 8), byte(sum)}) + s[12:]
}

// router: a table, and what New was given for it.
type router struct {
	*waymark.Table
	seed uint64
	own  uint32
}

func newRouter(t *testing.T, seed uint64, own uint32) router {
	t.Helper()
	return router{seededTable(t, seed, own), seed, own}
}

// hopsOf: of the longest route that contains an address, the hops: none, if there is none.
func (x router) hopsOf(a netip.Addr) []int {
	routes, _ := x.Dump(api.V4)
	longest, hops := -1, []int(nil)
	for _, r := range routes {
		b := binary.BigEndian.AppendUint32(nil, uint32(r.Prefix.Addr.Lo))
		if netip.PrefixFrom(netip.AddrFrom4([4]byte(b)), r.Prefix.Len).Contains(a) && r.Prefix.Len > longest {
			longest = r.Prefix.Len
			hops, _ = x.Hops(r.Group)
		}
	}
	return hops
}

// wrong tells the first of the rules 1 to 6 that applies.
func wrong(b []byte) int {
	if len(b) <= 19 {
		return api.TooShort
	}
	length := int(binary.BigEndian.Uint16(b[2:4]))
	switch {
	case b[0]/16 != 4:
		return api.BadVersion
	case b[0]%16 != 5:
		return api.BadHeader
	case length <= 19 || length > len(b):
		return api.BadLength
	case restOf(b[:20]) != 0:
		return api.BadSum
	}
	for _, first := range []byte{b[12], b[16]} {
		if first == 0 || first == 127 || first >= 224 {
			return api.Martian
		}
	}
	return api.NoReason
}

// judged tells what the document wants of a packet.
func (x router) judged(packet string) api.Verdict {
	b := []byte(packet)
	if reason := wrong(b); reason != api.NoReason {
		return api.Verdict{Kind: api.Dropped, Reason: reason}
	}
	b = b[:binary.BigEndian.Uint16(b[2:4])]
	hops := x.hopsOf(netip.AddrFrom4([4]byte(b[16:20])))
	if len(hops) == 0 {
		return x.answered(b, api.NoRoute, 3)
	}
	// Source and target stand beside one another: as one number they are source times 2^32, and target.
	flow := binary.BigEndian.Uint64(b[12:20]) ^ uint64(b[9])<<56
	hop := hops[mixedByHand(flow^x.seed)%uint64(len(hops))]
	if hop == 0 {
		return api.Verdict{Kind: api.Delivered, Out: string(b)}
	}
	if b[8] == 0 || b[8] == 1 {
		return x.answered(b, api.Expired, 11)
	}
	b[8]--
	seal(b[:20], 10)
	return api.Verdict{Kind: api.Forwarded, Hop: hop, Out: string(b)}
}

// answered tells the answer to a packet, or that there is none.
func (x router) answered(b []byte, reason int, kind byte) api.Verdict {
	isPart := binary.BigEndian.Uint16(b[6:8])<<3 != 0
	isFault := b[9] == 1 && len(b) > 20 && b[20] != 0 && b[20] != 8
	if isPart || isFault {
		return api.Verdict{Kind: api.Dropped, Reason: reason}
	}
	message := append([]byte{kind, 0, 0, 0, 0, 0, 0, 0}, b[:min(len(b), 28)]...)
	seal(message, 2)
	head := []byte{0x45, 0, 0, byte(20 + len(message)), 0, 0, 0, 0, 64, 1, 0, 0}
	head = binary.BigEndian.AppendUint32(head, x.own)
	head = append(head, b[12:16]...)
	seal(head, 10)
	return api.Verdict{Kind: api.Answered, Reason: reason, Out: string(head) + string(message)}
}

// mustJudge: the verdict is the one that is wanted.
func (x router) mustJudge(t *testing.T, packet string, want api.Verdict) {
	t.Helper()
	if v := x.Forward(packet); v != want {
		t.Fatalf("Forward(%.200x) = %d, %d, %d, out %x, want %d, %d, %d, out %x", packet, v.Kind, v.Reason, v.Hop, v.Out, want.Kind, want.Reason, want.Hop, want.Out)
	}
}

// check: the verdict is the model's, and of the kind and reason that are wanted.
func (x router) check(t *testing.T, packet string, kind, reason int) {
	t.Helper()
	want := x.judged(packet)
	if want.Kind != kind || want.Reason != reason {
		t.Fatalf("the model judges %.200x to %d, %d, want %d, %d", packet, want.Kind, want.Reason, kind, reason)
	}
	x.mustJudge(t, packet, want)
}

// drawnParcel: many of its numbers are those of the edges.
func drawnParcel(r *rand.Rand) parcel {
	firsts := []uint32{10, 10, 10, 10, 10, 11, 99, 1, 126, 128, 223, 0, 127, 224, 255}
	return parcel{
		first: []byte{0x45, 0x45, 0x45, 0x45, 0x45, 0x45, 0x44, 0x46, 0x55, 0x65}[r.Intn(10)], service: byte(r.Intn(256)),
		length: []int{-1, -1, -1, -1, 0, 19, 20, 21, 28, 65535}[r.Intn(10)],
		id:     r.Intn(65536), part: []int{0, 0, 0x2000, 0x4000, 0xe000, 1, 0x1000, 0x1fff}[r.Intn(8)],
		life: []byte{0, 1, 2, 64, 255}[r.Intn(5)], protocol: []byte{0, 1, 1, 6, 17, 255}[r.Intn(6)],
		source: firsts[r.Intn(len(firsts))]<<24 | uint32(r.Intn(1<<24)),
		target: firsts[r.Intn(len(firsts))]<<24 | uint32(r.Intn(1<<24)),
		body:   []string{"", "\x00", "\x03", "\x08", "\x0b", "\xff"}[r.Intn(6)] + strings.Repeat("body", r.Intn(5)) + "tail"[:r.Intn(4)],
	}
}

// drawnPacket: mostly with the right checksum, and now and then cut, or with bytes behind it, or with one bit that is wrong.
func drawnPacket(r *rand.Rand) string {
	s := drawnParcel(r).made()
	switch r.Intn(8) {
	case 0:
		s = s[:r.Intn(len(s)+1)]
	case 1:
		s += strings.Repeat("behind", 1+r.Intn(3))
	case 2:
		b := []byte(s)
		b[r.Intn(len(b))] ^= 1 << r.Intn(8)
		s = string(b)
	}
	return s
}

// drawnRouter: most addresses that begin with 10 have a route, and few others.
func drawnRouter(t *testing.T, r *rand.Rand) router {
	t.Helper()
	x := newRouter(t, r.Uint64(), r.Uint32())
	for g, hops := range [][]int{{7}, {0}, {1, 2, 3, 0}, {0, 65535, 0, 5, 5, 6, 7, 8}} {
		mustGroup(t, x.Table, g, hops...)
	}
	mustPut(t, x.Table, "10.0.0.0/8", r.Intn(4))
	mustPut(t, x.Table, "10.128.0.0/9", r.Intn(4))
	mustPut(t, x.Table, "0:0:0:0:0:0:0:0/0", r.Intn(4))
	for range 10 {
		checkPut(t, x.Table, api.Route{Prefix: drawnPrefix(r, api.V4, []int{1, 2, 3, 16, 24, 31, 32}), Group: r.Intn(4)}, api.OK)
	}
	return x
}

func TestP11DrawnPacketsAsTheModel(t *testing.T) {
	r := rand.New(rand.NewSource(12))
	seen := map[[2]int]int{}
	for range 60 {
		x := drawnRouter(t, r)
		for range 1000 {
			s := drawnPacket(r)
			want := x.judged(s)
			x.mustJudge(t, s, want)
			seen[[2]int{want.Kind, want.Reason}]++
		}
	}
	for _, c := range [][2]int{{api.Dropped, api.TooShort}, {api.Dropped, api.BadVersion}, {api.Dropped, api.BadHeader}, {api.Dropped, api.BadLength}, {api.Dropped, api.BadSum}, {api.Dropped, api.Martian}, {api.Dropped, api.NoRoute}, {api.Dropped, api.Expired}, {api.Answered, api.NoRoute}, {api.Answered, api.Expired}, {api.Delivered, api.NoReason}, {api.Forwarded, api.NoReason}} {
		if seen[c] < 100 {
			t.Errorf("of kind %d and reason %d there were %d packets alone", c[0], c[1], seen[c])
		}
	}
}

func FuzzP11Forward(f *testing.F) {
	expired, lost, home := common, common, common
	expired.life, lost.target, home.target = 1, 0x63000001, 0x0a090001
	for _, p := range []parcel{common, expired, lost, home} {
		f.Add(p.made(), uint64(1))
	}
	f.Fuzz(func(t *testing.T, packet string, seed uint64) {
		x := forwarder(t, seed)
		x.mustJudge(t, packet, x.judged(packet))
		// Few drawn packets have the right checksum: it is laid into a second one.
		if len(packet) >= 20 && packet[0] != 0 {
			b := []byte(packet)
			seal(b[:20], 10)
			x.mustJudge(t, string(b), x.judged(string(b)))
		}
	})
}
