package sum_test

import (
	"hash/adler32"
	"math"
	"math/big"
	"math/rand"
	"strings"
	"testing"

	"armada/sum"
)

const top = 65520

// halves makes a sum of its two halves.
func halves(high, low int) int { return 65536*high + low }

// numbers that are no sum: a half is too great, or they are below 0.
var noSums = []int{
	-1, -2, -65536, -65537, math.MinInt, 65521, 65522, 65535, halves(1, 65521), halves(top, 65521), halves(top, 65535),
	halves(65521, 0), halves(65521, 1), halves(65535, 65535), halves(65536, 0), 1 << 32, 1 << 48, 1 << 62, math.MaxInt,
}

func texts() []string {
	r := rand.New(rand.NewSource(1))
	l := []string{"", "\x00", "\x01", "a", "ab", "ba", "abc", "Wikipedia", "message digest", "\xff", "\x00\x00\x00",
		strings.Repeat("\xff", 300), strings.Repeat("\x00", 70000), strings.Repeat("\xff", 100000)}
	for range 60 {
		b := make([]byte, r.Intn(400))
		r.Read(b)
		l = append(l, string(b))
	}
	return l
}

// P2.1: known sums.
func TestOf(t *testing.T) {
	for s, want := range map[string]int{
		"": 1, "\x00": 0x00010001, "a": 0x00620062, "abc": 0x024d0127, "Wikipedia": 0x11e60398,
		"message digest": 0x29750586, "abcdefghijklmnopqrstuvwxyz": 0x90860b20,
	} {
		if got := sum.Of(s); got != want {
			t.Errorf("Of(%q): %#x, want %#x", s, got, want)
		}
	}
	for _, s := range texts() {
		if got, want := sum.Of(s), int(adler32.Checksum([]byte(s))); got != want {
			t.Errorf("Of a text of %d bytes: %#x, want %#x", len(s), got, want)
		}
	}
}

// P2.1: a sum is rolled byte by byte, its low half first, both modulo 65521.
func TestRoll(t *testing.T) {
	for _, c := range []struct {
		sum  int
		s    string
		want int
	}{
		{0, "", 0}, {1, "", 1}, {top, "", top}, {halves(top, 0), "", halves(top, 0)}, {halves(top, top), "", halves(top, top)},
		{0, "\x00", 0}, {0, "a", halves(97, 97)}, {halves(5, 7), "\x02", halves(14, 9)}, {halves(5, 7), "\x02\x01", halves(24, 10)},
		{top, "\x01", 0}, {top, "\x02", halves(1, 1)}, {top, "\x00", halves(top, top)},
		{halves(top, 0), "\x00", halves(top, 0)}, {halves(top, 0), "\x01", halves(0, 1)}, {halves(top, 1), "\x00", halves(0, 1)},
		{halves(top, top), "\x00", halves(65519, top)}, {halves(top, top), "\xff", halves(253, 254)},
	} {
		if got := sum.Roll(c.sum, c.s); got != c.want {
			t.Errorf("Roll(%#x, %q): %#x, want %#x", c.sum, c.s, got, c.want)
		}
	}
}

// P2.1: what is rolled on no sum is 0.
func TestRollOfNoSum(t *testing.T) {
	for _, n := range noSums {
		for _, s := range []string{"", "a", "\x00\x01", strings.Repeat("\xff", 1000)} {
			if got := sum.Roll(n, s); got != 0 {
				t.Errorf("Roll(%d, %d bytes): %#x", n, len(s), got)
			}
		}
	}
}

// joined is what P2.2 says, in numbers of any size.
func joined(a, b, n int) int {
	whole := func(i int) *big.Int { return big.NewInt(int64(i)) }
	mod := whole(65521)
	low := whole(a%65536 + b%65536 - 1)
	low.Mod(low, mod)
	high := new(big.Int).Mul(whole(n), whole(a%65536-1))
	high.Add(high, whole(a/65536+b/65536)).Mod(high, mod)
	return halves(int(high.Int64()), int(low.Int64()))
}

// P2.2: sums are joined by their halves, at the edges of halves and of sizes too.
func TestJoin(t *testing.T) {
	for _, c := range []struct{ a, b, n, want int }{
		{1, 1, 0, 1}, {1, 1, 1 << 40, 1}, {0, 0, 0, top}, {0, 1, 0, 0}, {1, 0, 9, 0}, {0, 1, 1, halves(top, 0)}, {0, 0, 1, halves(top, top)},
		{2, 1, 3, halves(3, 2)}, {top, top, 0, 65518}, {halves(top, 1), halves(1, 1), 5, halves(0, 1)},
		{halves(3, 5), halves(2, 7), 4, halves(21, 11)}, {0, 1, 65521, 0}, {0, 1, 65522, halves(top, 0)},
	} {
		if got := sum.Join(c.a, c.b, c.n); got != c.want {
			t.Errorf("Join(%#x, %#x, %d): %#x, want %#x", c.a, c.b, c.n, got, c.want)
		}
	}
	edges := []int{0, 1, 2, 97, 32768, top - 1, top}
	sizes := []int{0, 1, 2, 4096, 65520, 65521, 65522, 1<<31 - 1, 1 << 32, 1<<40 - 1, 1 << 40}
	for _, low := range edges {
		for _, high := range edges {
			for _, other := range edges {
				for _, n := range sizes {
					a, b := halves(high, low), halves(other, high)
					if got, want := sum.Join(a, b, n), joined(a, b, n); got != want {
						t.Fatalf("Join(%#x, %#x, %d): %#x, want %#x", a, b, n, got, want)
					}
				}
			}
		}
	}
}

// P2.2: nothing is joined that is no sum, nor of a size that may not be.
func TestJoinOfNoSum(t *testing.T) {
	good := sum.Of("a text")
	for _, n := range noSums {
		for _, c := range [][2]int{{n, good}, {good, n}, {n, n}} {
			if got := sum.Join(c[0], c[1], 6); got != 0 {
				t.Errorf("Join(%d, %d, 6): %#x", c[0], c[1], got)
			}
		}
	}
	for _, n := range []int{-1, -65521, math.MinInt, 1<<40 + 1, 1 << 41, math.MaxInt} {
		if got := sum.Join(good, good, n); got != 0 {
			t.Errorf("Join of %d bytes: %#x", n, got)
		}
	}
}

// P2.3: the sum of two texts is Roll of the first one's sum, and Join of both.
func TestTwoTexts(t *testing.T) {
	for _, a := range texts() {
		for _, b := range texts() {
			if len(a)+len(b) > 2000 && len(a) != len(b) {
				continue // the long ones are taken with themselves alone, for the time it takes
			}
			want := sum.Of(a + b)
			if got := sum.Roll(sum.Of(a), b); got != want {
				t.Fatalf("Roll of %q and %q: %#x, want %#x", a, b, got, want)
			}
			if got := sum.Join(sum.Of(a), sum.Of(b), len(b)); got != want {
				t.Fatalf("Join of %q and %q: %#x, want %#x", a, b, got, want)
			}
		}
	}
}

// P2.3: one byte that differs, or two neighbours that are swapped, give another sum.
func TestFaultsAreSeen(t *testing.T) {
	for _, s := range []string{"a", "\x00", "\xff\xff\xff", "Wikipedia", strings.Repeat("ab", 40), strings.Repeat("\xff", 600)} {
		was := sum.Of(s)
		for i := range len(s) {
			for b := range 256 {
				if byte(b) != s[i] && sum.Of(s[:i]+string([]byte{byte(b)})+s[i+1:]) == was {
					t.Fatalf("byte %d of %q: %d is not seen", i, s, b)
				}
			}
			if i > 0 && s[i] != s[i-1] && sum.Of(s[:i-1]+string([]byte{s[i], s[i-1]})+s[i+1:]) == was {
				t.Fatalf("byte %d of %q: a swap is not seen", i, s)
			}
		}
	}
}

// R6: asked again, it is the same.
func TestAgain(t *testing.T) {
	for _, s := range texts() {
		a, b := sum.Of(s), sum.Roll(7, s)
		if sum.Of(s) != a || sum.Roll(7, s) != b || sum.Join(a, b, len(s)) != sum.Join(a, b, len(s)) {
			t.Fatalf("%q: another answer", s)
		}
	}
}
