package address_test

import (
	"math"
	"testing"

	"waymark/address"
	"waymark/api"
)

// bit tells the bit of this number, counted from the highest of the family on.
func bit(a api.Addr, number int) uint64 {
	below := address.Width(a.Family) - 1 - number
	if below >= 64 {
		return a.Hi >> (below - 64) & 1
	}
	return a.Lo >> below & 1
}

func all(family int) api.Addr {
	if family == api.V4 {
		return api.Addr{Family: api.V4, Lo: 1<<32 - 1}
	}
	return api.Addr{Family: api.V6, Hi: math.MaxUint64, Lo: math.MaxUint64}
}

func TestWidth(t *testing.T) {
	if n := address.Width(api.V4); n != 32 {
		t.Errorf("Width(V4) = %d", n)
	}
	if n := address.Width(api.V6); n != 128 {
		t.Errorf("Width(V6) = %d", n)
	}
	for _, f := range []int{0, 1, 3, 5, 7, 46, -4, -6, math.MaxInt, math.MinInt} {
		if n := address.Width(f); n != 0 {
			t.Errorf("Width(%d) = %d", f, n)
		}
	}
}

func TestCutBitByBit(t *testing.T) {
	for _, f := range []int{api.V4, api.V6} {
		for n := 0; n <= address.Width(f); n++ {
			c := address.Cut(all(f), n)
			if c.Family != f {
				t.Errorf("Cut to %d: family %d, want %d", n, c.Family, f)
			}
			for i := range address.Width(f) {
				want := uint64(0)
				if i < n {
					want = 1
				}
				if bit(c, i) != want {
					t.Errorf("family %d cut to %d: bit %d is %d", f, n, i, bit(c, i))
				}
			}
			if f == api.V4 && (c.Hi != 0 || c.Lo>>32 != 0) {
				t.Errorf("cut to %d: %+v is no address of V4", n, c)
			}
		}
	}
}

func TestCheckEveryLength(t *testing.T) {
	for _, f := range []int{api.V4, api.V6} {
		width := address.Width(f)
		for n := 0; n <= width; n++ {
			p := api.Prefix{Addr: address.Cut(all(f), n), Len: n}
			if e := address.Check(p); e != api.OK {
				t.Errorf("Check(%+v) = %d", p, e)
			}
			if n == 0 {
				continue
			}
			p.Len = n - 1
			if e := address.Check(p); e != api.ErrAddr {
				t.Errorf("Check(%+v) = %d, want ErrAddr", p, e)
			}
		}
	}
}

func TestCheckLengthOfFamilies(t *testing.T) {
	for _, c := range []struct {
		family, length int
		want           api.Errno
	}{
		{api.V4, 0, api.OK}, {api.V4, 32, api.OK}, {api.V4, -1, api.ErrLen}, {api.V4, 33, api.ErrLen}, {api.V4, 128, api.ErrLen}, {api.V4, math.MaxInt, api.ErrLen}, {api.V4, math.MinInt, api.ErrLen},
		{api.V6, 0, api.OK}, {api.V6, 33, api.OK}, {api.V6, 128, api.OK}, {api.V6, -1, api.ErrLen}, {api.V6, 129, api.ErrLen}, {api.V6, math.MaxInt, api.ErrLen}, {api.V6, math.MinInt, api.ErrLen},
		{0, 0, api.ErrFamily}, {5, -1, api.ErrFamily}, {-4, 999, api.ErrFamily}, {math.MaxInt, 0, api.ErrFamily}, {math.MinInt, 0, api.ErrFamily},
	} {
		if e := address.CheckLength(c.family, c.length); e != c.want {
			t.Errorf("CheckLength(%d, %d) = %d, want %d", c.family, c.length, e, c.want)
		}
	}
}

func TestCheckAddress(t *testing.T) {
	for _, c := range []struct {
		a    api.Addr
		want api.Errno
	}{
		{api.Addr{Family: api.V4}, api.OK}, {all(api.V4), api.OK}, {api.Addr{Family: api.V6}, api.OK}, {all(api.V6), api.OK},
		{api.Addr{Family: api.V4, Lo: 1 << 32}, api.ErrAddr}, {api.Addr{Family: api.V4, Lo: 1 << 63}, api.ErrAddr}, {api.Addr{Family: api.V4, Hi: 1}, api.ErrAddr}, {api.Addr{Family: api.V4, Hi: 1 << 63}, api.ErrAddr},
		{api.Addr{}, api.ErrFamily}, {api.Addr{Family: 5, Hi: 1, Lo: 1 << 32}, api.ErrFamily}, {api.Addr{Family: -6}, api.ErrFamily},
	} {
		if e := address.CheckAddress(c.a); e != c.want {
			t.Errorf("CheckAddress(%+v) = %d, want %d", c.a, e, c.want)
		}
	}
}

func TestContainsEveryLength(t *testing.T) {
	for _, f := range []int{api.V4, api.V6} {
		for n := 0; n <= address.Width(f); n++ {
			p := api.Prefix{Addr: address.Cut(all(f), n), Len: n}
			for m := 0; m <= address.Width(f); m++ {
				// Of the uppermost prefixes the longer ones lie in the shorter ones; of the lowest only the whole family holds any.
				if got := address.Contains(p, api.Prefix{Addr: address.Cut(all(f), m), Len: m}); got != (n <= m) {
					t.Errorf("family %d: length %d contains length %d: %t", f, n, m, got)
				}
				if got := address.Contains(p, api.Prefix{Addr: api.Addr{Family: f}, Len: m}); got != (n == 0) {
					t.Errorf("family %d: uppermost length %d contains lowest length %d: %t", f, n, m, got)
				}
			}
		}
	}
	four, six := api.Prefix{Addr: api.Addr{Family: api.V4}}, api.Prefix{Addr: api.Addr{Family: api.V6}}
	if address.Contains(four, six) || address.Contains(six, four) {
		t.Errorf("one family contains the other")
	}
}
