package waymark_test

import (
	"fmt"
	"math"
	"math/big"
	"math/rand"
	"strconv"
	"strings"
	"testing"

	"waymark/api"
	"waymark/waymark"
)

func prefix(family int, hi, lo uint64, length int) api.Prefix {
	return api.Prefix{Addr: api.Addr{Family: family, Hi: hi, Lo: lo}, Len: length}
}

func widthOf(family int) int {
	if family == api.V4 {
		return 32
	}
	return 128
}

// expected tells by the library's means, not by the program's, what a text is.
func expected(text string) (api.Prefix, api.Errno) {
	for _, c := range []struct {
		family, parts, base, bits int
		separator                 string
	}{{api.V4, 4, 10, 8, "."}, {api.V6, 8, 16, 16, ":"}} {
		head, tail, _ := strings.Cut(text, "/")
		length, err := strconv.ParseUint(tail, 10, 62)
		if err != nil || strconv.FormatUint(length, 10) != tail || length > uint64(widthOf(c.family)) {
			continue
		}
		parts := strings.Split(head, c.separator)
		if len(parts) != c.parts {
			continue
		}
		value := new(big.Int)
		good := true
		for _, part := range parts {
			n, err := strconv.ParseUint(part, c.base, c.bits)
			good = good && err == nil && strconv.FormatUint(n, c.base) == part
			value.Lsh(value, uint(c.bits)).Add(value, new(big.Int).SetUint64(n))
		}
		behind := uint(widthOf(c.family)) - uint(length)
		if !good || value.Sign() != 0 && value.TrailingZeroBits() < behind {
			continue
		}
		lo := new(big.Int).And(value, new(big.Int).SetUint64(math.MaxUint64)).Uint64()
		return prefix(c.family, new(big.Int).Rsh(value, 64).Uint64(), lo, int(length)), api.OK
	}
	return api.Prefix{}, api.ErrText
}

func checkParse(t *testing.T, text string) {
	t.Helper()
	want, e := expected(text)
	if p, f := waymark.Parse(text); p != want || f != e {
		t.Errorf("Parse(%.80q) = %+v, %d, want %+v, %d", text, p, f, want, e)
	}
}

// written writes a prefix by the library's means.
func written(p api.Prefix) string {
	a := p.Addr
	if a.Family == api.V4 {
		return fmt.Sprintf("%d.%d.%d.%d/%d", a.Lo>>24, a.Lo>>16&255, a.Lo>>8&255, a.Lo&255, p.Len)
	}
	return fmt.Sprintf("%x:%x:%x:%x:%x:%x:%x:%x/%d",
		a.Hi>>48, a.Hi>>32&65535, a.Hi>>16&65535, a.Hi&65535, a.Lo>>48, a.Lo>>32&65535, a.Lo>>16&65535, a.Lo&65535, p.Len)
}

func checkBothWays(t *testing.T, p api.Prefix) {
	t.Helper()
	text := written(p)
	if s, e := waymark.Format(p); s != text || e != api.OK {
		t.Errorf("Format(%+v) = %q, %d, want %q", p, s, e, text)
	}
	if q, e := waymark.Parse(text); q != p || e != api.OK {
		t.Errorf("Parse(%q) = %+v, %d, want %+v", text, q, e, p)
	}
}

func TestP3DocumentExamples(t *testing.T) {
	for text, want := range map[string]api.Prefix{
		"10.1.0.0/16":             prefix(api.V4, 0, 167837696, 16),
		"2001:db8:0:0:0:0:0:0/32": prefix(api.V6, 0x20010db800000000, 0, 32),
		"0.0.0.0/0":               prefix(api.V4, 0, 0, 0),
		"0:0:0:0:0:0:0:0/0":       prefix(api.V6, 0, 0, 0),
	} {
		if p, e := waymark.Parse(text); p != want || e != api.OK {
			t.Errorf("Parse(%q) = %+v, %d, want %+v", text, p, e, want)
		}
		if s, e := waymark.Format(want); s != text || e != api.OK {
			t.Errorf("Format(%+v) = %q, %d, want %q", want, s, e, text)
		}
	}
	for _, text := range []string{"10.1.0.0/15", "10.1.0/16", "010.1.0.0/16", "10.1.0.0/33", "10.1.0.0/016", "256.0.0.0/8", "2001:DB8:0:0:0:0:0:0/32"} {
		if p, e := waymark.Parse(text); p != (api.Prefix{}) || e != api.ErrText {
			t.Errorf("Parse(%q) = %+v, %d, want nothing, ErrText", text, p, e)
		}
	}
}

func TestP3EveryNumberOfAPart(t *testing.T) {
	for n := range 300 {
		for _, form := range []string{"%d.2.3.4/32", "1.%d.3.4/32", "1.2.%d.4/32", "1.2.3.%d/32", "%03d.2.3.4/32", "1.2.3.4/%d", "0.0.0.0/%d", "0.0.0.0/%02d", "255.255.255.255/%d"} {
			checkParse(t, fmt.Sprintf(form, n))
		}
	}
	for n := range 65536 + 300 {
		for i := range 8 {
			parts := [8]string{"1", "2", "3", "4", "5", "6", "7", "8"}
			parts[i] = strconv.FormatInt(int64(n), 16)
			checkParse(t, strings.Join(parts[:], ":")+"/128")
		}
	}
	for n := range 300 {
		for _, form := range []string{"0:0:0:0:0:0:0:0/%d", "0:0:0:0:0:0:0:0/%03d", "0:0:0:0:0:0:0:0/%x", "%04x:0:0:0:0:0:0:0/128", "%X:0:0:0:0:0:0:0/128"} {
			checkParse(t, fmt.Sprintf(form, n))
		}
	}
}

func TestP3NotQuiteATextAtEveryPlace(t *testing.T) {
	for _, text := range []string{
		"10.1.0.0/16", "0.0.0.0/0", "255.255.255.255/32", "128.0.0.0/1",
		"2001:db8:0:0:0:0:0:0/32", "0:0:0:0:0:0:0:0/0", "ffff:ffff:ffff:ffff:ffff:ffff:ffff:ffff/128", "1:2:3:4:8000:0:0:0/65",
	} {
		for i := range len(text) + 1 {
			checkParse(t, text[:i])
			checkParse(t, text[i:])
			checkParse(t, text[:i]+text)
			checkParse(t, text+text[i:])
			for c := range 256 {
				one := string([]byte{byte(c)})
				checkParse(t, text[:i]+one+text[i:])
				if i < len(text) {
					checkParse(t, text[:i]+one+text[i+1:])
				}
			}
			if i < len(text) {
				checkParse(t, text[:i]+text[i+1:])
			}
		}
	}
}

func TestP3WrongTexts(t *testing.T) {
	for _, text := range []string{
		"", "/", ".", ":", "0", "/0", "...", "..../0", ".../0", ":::::::/0", "::/0", "::", "0/0", "0.0/0",
		"1.2.3.4", "1.2.3.4/", "1.2.3.4/32/", "1.2.3.4/32/32", "1.2.3.4//32", "1.2.3.4./32", ".1.2.3.4/32", "1.2.3.4.5/32", "1.2.3/32",
		"+1.2.3.4/32", "-1.2.3.4/32", "1.2.3.4/+32", "1.2.3.4/-1", "-0.0.0.0/0", "0.0.0.0/-0", "1_0.0.0.0/8", "0x1.2.3.4/32", "1.2.3.a/32", "1.2.3.4/2a",
		" 1.2.3.4/32", "1.2.3.4/32 ", "1.2.3.4/32\n", "1.2.3.4/32\x00", "1.2. 3.4/32", "١.2.3.4/32", "1.2.3.4\u2215/32",
		"1:2:3:4:5:6:7/128", "1:2:3:4:5:6:7:8:9/128", "1:2:3:4:5:6:7:/128", ":2:3:4:5:6:7:8/128", "1:2:3:4:5:6:7.8/128", "1.2.3.4:5:6:7:8/128", "0:0:0:0:0:0:1.2.3.4/128", "1.2:3.4/32",
		"A:2:3:4:5:6:7:8/128", "g:2:3:4:5:6:7:8/128", "01:2:3:4:5:6:7:8/128", "1:2:3:4:5:6:7:8/0x80", "1:2:3:4:5:6:7:8/a", "[1:2:3:4:5:6:7:8]/128", "1:2:3:4:5:6:7:8%0/128",
		"18446744073709551617.0.0.0/8", "4294967297.0.0.0/8", "0.0.0.0/4294967296", "0.0.0.0/18446744073709551616", "0:0:0:0:0:0:0:0/18446744073709551616", "10000000000000001:0:0:0:0:0:0:0/128",
	} {
		if p, e := waymark.Parse(text); p != (api.Prefix{}) || e != api.ErrText {
			t.Errorf("Parse(%q) = %+v, %d, want nothing, ErrText", text, p, e)
		}
	}
	for _, piece := range []string{"0", "1", "f", ".", ":", "/", "1.", "0:", "\x00", "\xff"} {
		for _, head := range []string{"", "1.2.3.4/", "1.2.3.", "1:2:3:4:5:6:7:", "1:2:3:4:5:6:7:8/"} {
			if p, e := waymark.Parse(head + strings.Repeat(piece, 3000000)); p != (api.Prefix{}) || e != api.ErrText {
				t.Errorf("Parse(%q and %q many times) = %+v, %d, want nothing, ErrText", head, piece, p, e)
			}
		}
	}
}

func TestP3BothWaysAtEveryLength(t *testing.T) {
	r := rand.New(rand.NewSource(3))
	for _, family := range []int{api.V4, api.V6} {
		for length := range widthOf(family) + 1 {
			for range 200 {
				hi, lo := r.Uint64(), r.Uint64()
				if r.Intn(4) == 0 {
					hi, lo = math.MaxUint64, math.MaxUint64
				}
				if family == api.V4 {
					hi, lo = 0, lo>>32
				}
				hi, lo = cutByHand(family, hi, lo, length)
				checkBothWays(t, prefix(family, hi, lo, length))
			}
		}
	}
}

// cutByHand clears the bits behind the length one by one.
func cutByHand(family int, hi, lo uint64, length int) (uint64, uint64) {
	for i := range widthOf(family) - length {
		if i < 64 {
			lo &^= 1 << i
		} else {
			hi &^= 1 << (i - 64)
		}
	}
	return hi, lo
}

func TestP3EveryBitBehindTheLength(t *testing.T) {
	for _, family := range []int{api.V4, api.V6} {
		for length := range widthOf(family) + 1 {
			for i := range widthOf(family) {
				p := prefix(family, 0, 0, length)
				if i < 64 {
					p.Addr.Lo = 1 << i
				} else {
					p.Addr.Hi = 1 << (i - 64)
				}
				if i >= widthOf(family)-length {
					checkBothWays(t, p)
					continue
				}
				if s, e := waymark.Format(p); s != "" || e != api.ErrAddr {
					t.Errorf("Format(%+v) = %q, %d, want nothing, ErrAddr", p, s, e)
				}
				if q, e := waymark.Parse(written(p)); q != (api.Prefix{}) || e != api.ErrText {
					t.Errorf("Parse(%q) = %+v, %d, want nothing, ErrText", written(p), q, e)
				}
			}
		}
	}
}

func TestP3FormatWrongPrefixesInTheOrderOfErrors(t *testing.T) {
	for _, family := range []int{0, 1, 3, 5, 7, 46, -4, -6, math.MaxInt, math.MinInt} {
		for _, length := range []int{0, 32, 33, -1, math.MinInt} {
			checkFormatError(t, prefix(family, math.MaxUint64, math.MaxUint64, length), api.ErrFamily)
		}
	}
	for _, length := range []int{-1, -32, 33, 64, 128, 1 << 32, math.MaxInt, math.MinInt} {
		checkFormatError(t, prefix(api.V4, 0, 0, length), api.ErrLen)
		checkFormatError(t, prefix(api.V4, 1, 1<<32, length), api.ErrLen)
	}
	for _, length := range []int{-1, -128, 129, 192, 1 << 32, math.MaxInt, math.MinInt} {
		checkFormatError(t, prefix(api.V6, 0, 0, length), api.ErrLen)
		checkFormatError(t, prefix(api.V6, 1, 1, length), api.ErrLen)
	}
	for length := range 33 {
		for _, a := range []struct{ hi, lo uint64 }{{1, 0}, {1 << 63, 0}, {0, 1 << 32}, {0, 1 << 63}, {math.MaxUint64, math.MaxUint64}} {
			checkFormatError(t, prefix(api.V4, a.hi, a.lo, length), api.ErrAddr)
		}
	}
}

func checkFormatError(t *testing.T, p api.Prefix, want api.Errno) {
	t.Helper()
	if s, e := waymark.Format(p); s != "" || e != want {
		t.Errorf("Format(%+v) = %q, %d, want nothing, %d", p, s, e, want)
	}
}

func FuzzP3Parse(f *testing.F) {
	f.Add("10.1.0.0/16")
	f.Add("2001:db8:0:0:0:0:0:0/32")
	f.Fuzz(checkParse)
}
