package mixing

import (
	"math"
	"testing"
)

// The worths were reckoned with whole numbers of any size, and cut to 64 bits behind each product.
func TestMix(t *testing.T) {
	for _, c := range []struct{ x, want uint64 }{
		{0, 0},
		{1, 0x5692161d100b05e5},
		{0x9e3779b97f4a7c15, 0xe220a8397b1dcdaf},
		{0x3c6ef372fe94f82a, 0x6e789e6aa1b965f4},
		{1 << 63, 0x25c26ea579cea98a},
		{math.MaxUint64, 0xb4d055fcf2cbbd7b},
	} {
		if got := Mix(c.x); got != c.want {
			t.Errorf("Mix(%#x) = %#x, want %#x", c.x, got, c.want)
		}
	}
}
