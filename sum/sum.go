// Package sum is layer 2, a checksum: see shared/doc/02-sum.md.
package sum

const (
	modulus = 65521
	shift   = 65536
	maxSize = 1 << 40
)

// Of tells the sum of s.
func Of(s string) int { return Roll(1, s) }

// Roll tells the sum that comes of a sum by the bytes of s; 0, if it is none.
func Roll(sum int, s string) int {
	high, low, ok := halves(sum)
	if !ok {
		return 0
	}
	for i := range len(s) {
		low = (low + int(s[i])) % modulus
		high = (high + low) % modulus
	}
	return whole(high, low)
}

// Join tells the sum of two texts, one behind the other, by their sums, and the size of the second one.
func Join(a int, b int, n int) int {
	highA, lowA, okA := halves(a)
	highB, lowB, okB := halves(b)
	if !okA || !okB || n < 0 || n > maxSize {
		return 0
	}
	// A low half of 0, less 1, is below 0, and so would the rest be: the modulus is added ahead.
	less := lowA + modulus - 1
	low := (lowB + less) % modulus
	// The size is taken modulo first, so that no product comes near 64 bits.
	high := (highA + highB + (n%modulus)*less) % modulus
	return whole(high, low)
}

func halves(sum int) (int, int, bool) {
	high, low := sum/shift, sum%shift
	if sum < 0 || high >= modulus || low >= modulus {
		return 0, 0, false
	}
	return high, low, true
}

func whole(high int, low int) int { return high*shift + low }
