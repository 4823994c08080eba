package digest_test

import (
	"crypto/sha256"
	"encoding/binary"
	"encoding/hex"
	"math"
	"math/big"
	"math/rand"
	"strings"
	"testing"

	"armada/digest"
)

// primes are the first n prime numbers.
func primes(n int) []int64 {
	var l []int64
	for k := int64(2); len(l) < n; k++ {
		if big.NewInt(k).ProbablyPrime(0) {
			l = append(l, k)
		}
	}
	return l
}

// root is the first 32 bits of the fraction of that root of k: of the greatest number whose power is at most k, with as many bits 0 behind it as the power takes.
func root(k int64, power int) uint32 {
	most := new(big.Int).Lsh(big.NewInt(k), uint(32*power))
	low := new(big.Int)
	for bit := 40; bit >= 0; bit-- {
		try := new(big.Int).SetBit(low, bit, 1)
		if new(big.Int).Exp(try, big.NewInt(int64(power)), nil).Cmp(most) <= 0 {
			low = try
		}
	}
	return uint32(low.Uint64())
}

// the chapter's H, as bytes, and K.
func start() string {
	var b []byte
	for _, k := range primes(8) {
		b = binary.BigEndian.AppendUint32(b, root(k, 2))
	}
	return string(b)
}

func constants() [64]uint32 {
	var l [64]uint32
	for i, k := range primes(64) {
		l[i] = root(k, 3)
	}
	return l
}

func rotr(x uint32, n int) uint32 { return x>>n | x<<(32-n) }

func words(s string) []uint32 {
	var l []uint32
	for b := []byte(s); len(b) >= 4; b = b[4:] {
		l = append(l, binary.BigEndian.Uint32(b))
	}
	return l
}

// plainBlock is what P12.1 says, word by word.
func plainBlock(k [64]uint32, hBytes, bBytes string) string {
	h, w := words(hBytes), words(bBytes)
	for i := 16; i < 64; i++ {
		x, y := w[i-15], w[i-2]
		s0 := rotr(x, 7) ^ rotr(x, 18) ^ x>>3
		s1 := rotr(y, 17) ^ rotr(y, 19) ^ y>>10
		w = append(w, s1+w[i-7]+s0+w[i-16])
	}
	a, b, c, d, e, f, g, z := h[0], h[1], h[2], h[3], h[4], h[5], h[6], h[7]
	for i := range 64 {
		t := z + (rotr(e, 6) ^ rotr(e, 11) ^ rotr(e, 25)) + ((e & f) ^ (^e & g)) + k[i] + w[i]
		u := (rotr(a, 2) ^ rotr(a, 13) ^ rotr(a, 22)) + ((a & b) ^ (a & c) ^ (b & c))
		z, g, f, e = g, f, e, d+t
		d, c, b, a = c, b, a, t+u
	}
	var out []byte
	for i, x := range []uint32{a, b, c, d, e, f, g, z} {
		out = binary.BigEndian.AppendUint32(out, h[i]+x)
	}
	return string(out)
}

// random is n bytes.
func random(r *rand.Rand, n int) string {
	b := make([]byte, n)
	r.Read(b)
	return string(b)
}

// P12.1: by the chapter's words, of blocks and words of all kinds.
func TestBlock(t *testing.T) {
	k := constants()
	r := rand.New(rand.NewSource(1))
	hs := []string{start(), strings.Repeat("\x00", 32), strings.Repeat("\xff", 32), strings.Repeat("\x80\x00\x00\x01", 8)}
	bs := []string{strings.Repeat("\x00", 64), strings.Repeat("\xff", 64), strings.Repeat("\x7f\xff\xff\xff", 16), strings.Repeat("a", 64)}
	for i := range 64 {
		hs = append(hs, random(r, 32))
		bs = append(bs, random(r, 64), strings.Repeat("\x00", i)+"\x01"+strings.Repeat("\x00", 63-i))
	}
	for i := range 32 {
		hs = append(hs, strings.Repeat("\x00", i)+"\x80"+strings.Repeat("\x00", 31-i))
	}
	for _, h := range hs {
		for _, b := range bs {
			if got, ok := digest.Block(h, b); got != plainBlock(k, h, b) || !ok {
				t.Fatalf("Block(%x, %x): %x, %v", h, b, got, ok)
			}
		}
	}
}

// P12.1: other numbers of bytes.
func TestBlockOfOthers(t *testing.T) {
	long := strings.Repeat("x", 200)
	for n := range 200 {
		for _, m := range []int{0, 1, 31, 32, 33, 63, 64, 65, 96, 127, 128, 199} {
			for _, c := range [][2]int{{n, m}, {m, n}} {
				got, ok := digest.Block(long[:c[0]], long[:c[1]])
				right := c[0] == 32 && c[1] == 64
				if ok != right || right != (len(got) == 32) || !right && got != "" {
					t.Errorf("Block of %d and %d bytes: %x, %v", c[0], c[1], got, ok)
				}
			}
		}
	}
}

// plainPad is what P12.2 says, byte by byte.
func plainPad(n int) string {
	s := "\x80"
	for (n+len(s)+8)%64 != 0 {
		s += "\x00"
	}
	return string(binary.BigEndian.AppendUint64([]byte(s), 8*uint64(n)))
}

// P12.2: each rest of bytes, and the edges.
func TestPad(t *testing.T) {
	for _, from := range []int{0, 4096, 1<<29 - 70, 1<<32 - 70, 1<<40 - 199} {
		for n := from; n < from+200; n++ {
			if got := digest.Pad(n); got != plainPad(n) || len(got) < 9 || len(got) > 72 {
				t.Errorf("Pad(%d): %x", n, got)
			}
		}
	}
	if got := digest.Pad(1 << 40); got != "\x80"+strings.Repeat("\x00", 57)+"\x08\x00\x00\x00\x00\x00" {
		t.Errorf("Pad of the most bytes: %x", got)
	}
	for _, n := range []int{-1, -9, -64, math.MinInt, 1<<40 + 1, 1 << 41, 1 << 61, math.MaxInt} {
		if got := digest.Pad(n); got != "" {
			t.Errorf("Pad(%d): %x", n, got)
		}
	}
}

// texts are texts of all sizes about a few blocks, and some longer ones.
func texts() []string {
	r := rand.New(rand.NewSource(2))
	var l []string
	for n := range 300 {
		l = append(l, random(r, n), strings.Repeat("\x00", n), strings.Repeat("\x80", n), strings.Repeat("\xff", n))
	}
	for _, n := range []int{1000, 4095, 4096, 4097, 65536, 99999} {
		l = append(l, random(r, n), strings.Repeat("a", n))
	}
	return l
}

// P12.3: known answers, and those of the library.
func TestOf(t *testing.T) {
	for s, want := range map[string]string{
		"":    "e3b0c44298fc1c149afbf4c8996fb92427ae41e4649b934ca495991b7852b855",
		"abc": "ba7816bf8f01cfea414140de5dae2223b00361a396177a9cb410ff61f20015ad",
		"abcdbcdecdefdefgefghfghighijhijkijkljklmklmnlmnomnopnopq": "248d6a61d20638b8e5c026930c3e6039a33ce45964ff2167f6ecedd419db06c1",
		strings.Repeat("a", 1000000):                               "cdc76e5c9914fb9281a1c7e284d73e67f1809a48a497200e046d39ccc7112cd0",
	} {
		if got := digest.Hex(digest.Of(s)); got != want {
			t.Errorf("Of %d bytes: %s, want %s", len(s), got, want)
		}
	}
	for _, s := range texts() {
		want := sha256.Sum256([]byte(s))
		if got := digest.Of(s); got != string(want[:]) {
			t.Errorf("Of %d bytes, %.8q: %x, want %x", len(s), s, got, want)
		}
	}
}

// P12.3: two digits of each byte.
func TestHex(t *testing.T) {
	all := ""
	for n := range 256 {
		s := string([]byte{byte(n)})
		all += s
		if got := digest.Hex(s); got != hex.EncodeToString([]byte(s)) || len(got) != 2 {
			t.Errorf("Hex(%q): %q", s, got)
		}
	}
	for s, want := range map[string]string{"": "", "\x00": "00", "\x0f": "0f", "\xf0": "f0", "\xff": "ff", "\x00\x00": "0000", "abc": "616263", "\x9a\xbc\xde": "9abcde", all: hex.EncodeToString([]byte(all))} {
		if got := digest.Hex(s); got != want {
			t.Errorf("Hex(%q): %q", s, got)
		}
	}
	for _, s := range texts() {
		if got := digest.Hex(s); got != hex.EncodeToString([]byte(s)) {
			t.Errorf("Hex of %d bytes: %.20q", len(s), got)
		}
	}
}

// P12.3, P12.4: it is what Block tells, block by block, of the bytes and what stands behind them, wherever they are cut.
func TestBlockByBlock(t *testing.T) {
	for _, s := range texts() {
		whole := s + digest.Pad(len(s))
		if len(whole)%64 != 0 {
			t.Fatalf("%d bytes, and what stands behind them, are no blocks", len(s))
		}
		h, ok := start(), true
		for ; ok && whole != ""; whole = whole[64:] {
			h, ok = digest.Block(h, whole[:64])
		}
		if !ok || h != digest.Of(s) {
			t.Fatalf("%d bytes, %.8q: %x, %v", len(s), s, h, ok)
		}
	}
}

// P12.4: the same bytes, joined of any two parts, or asked again, come to the same; others do not.
func TestCut(t *testing.T) {
	s := random(rand.New(rand.NewSource(3)), 200)
	want := digest.Of(s)
	for i := range len(s) + 1 {
		if digest.Of(strings.Clone(s[:i])+strings.Clone(s[i:])) != want {
			t.Fatalf("cut at %d: something else", i)
		}
		if i < len(s) && (digest.Of(s[:i]) == want || digest.Of(s[:i]+string([]byte{s[i] ^ 1})+s[i+1:]) == want) {
			t.Fatalf("byte %d is not seen", i)
		}
	}
	seen := map[string]bool{}
	for n := range 300 {
		seen[digest.Of(strings.Repeat("\x00", n))] = true
	}
	if len(seen) != 300 {
		t.Errorf("of 300 texts of bytes 0 only %d are told apart", len(seen))
	}
}
