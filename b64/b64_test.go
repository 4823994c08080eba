package b64_test

import (
	"encoding/base64"
	"math"
	"math/rand"
	"strings"
	"testing"

	"armada/b64"
)

const signs = "ABCDEFGHIJKLMNOPQRSTUVWXYZabcdefghijklmnopqrstuvwxyz0123456789+/"

// plain is what P13.1 says, bit by bit.
func plain(s string) string {
	bits := ""
	for _, c := range []byte(s) {
		for i := 7; i >= 0; i-- {
			bits += string(rune('0' + c>>i&1))
		}
	}
	for len(bits)%6 != 0 {
		bits += "00"
	}
	out := ""
	for ; bits != ""; bits = bits[6:] {
		n := 0
		for _, bit := range bits[:6] {
			n = 2*n + int(bit-'0')
		}
		out += signs[n : n+1]
	}
	return out + []string{"", "==", "="}[len(s)%3]
}

// random is n bytes.
func random(r *rand.Rand, n int) string {
	b := make([]byte, n)
	r.Read(b)
	return string(b)
}

// texts are all texts of up to two bytes, and some of each number of bytes up to a hundred.
func texts() []string {
	l := []string{""}
	for i := range 256 {
		l = append(l, string([]byte{byte(i)}))
		for j := range 256 {
			l = append(l, string([]byte{byte(i), byte(j)}))
		}
	}
	r := rand.New(rand.NewSource(1))
	for n := range 100 {
		l = append(l, strings.Repeat("\x00", n), strings.Repeat("\xff", n), random(r, n), random(r, n), random(r, n))
	}
	return l
}

// P13.1: known answers, and those of the chapter's words.
func TestEncode(t *testing.T) {
	for s, want := range map[string]string{
		"": "", "a": "YQ==", "f": "Zg==", "fo": "Zm8=", "foo": "Zm9v", "foob": "Zm9vYg==", "fooba": "Zm9vYmE=", "foobar": "Zm9vYmFy",
		"\x00": "AA==", "\x00\x00": "AAA=", "\x00\x00\x00": "AAAA", "\xff": "/w==", "\xff\xff": "//8=", "\xff\xff\xff": "////", "\xfb\xef\xbe": "++++", "\xfb\xf0": "+/A=", "\x00\x10\x83": "ABCD",
	} {
		if got := b64.Encode(s); got != want {
			t.Errorf("Encode(%q): %q, want %q", s, got, want)
		}
	}
	for _, s := range texts() {
		if got := b64.Encode(s); got != plain(s) || got != base64.StdEncoding.EncodeToString([]byte(s)) {
			t.Fatalf("Encode(%q): %q", s, got)
		}
	}
}

// P13.1: each byte at each place of a group, and each sign.
func TestEachByte(t *testing.T) {
	seen := map[rune]bool{}
	for at := range 3 {
		for c := range 256 {
			b := []byte("\x00\xff\x5a")
			b[at] = byte(c)
			got := b64.Encode(string(b))
			if got != plain(string(b)) {
				t.Errorf("Encode(%q): %q", b, got)
			}
			for _, sign := range got {
				seen[sign] = true
			}
		}
	}
	for _, sign := range signs {
		if !seen[sign] {
			t.Errorf("%c is no sign", sign)
		}
	}
	if len(seen) != 64 {
		t.Errorf("%d signs", len(seen))
	}
}

// P13.2, P13.3: what is encoded is decoded.
func TestThereAndBack(t *testing.T) {
	l := texts()
	r := rand.New(rand.NewSource(2))
	for _, n := range []int{4095, 4096, 4097, 99999} {
		l = append(l, random(r, n))
	}
	for _, s := range l {
		code := b64.Encode(s)
		if got, ok := b64.Decode(code); got != s || !ok {
			t.Fatalf("Decode(%.40q): %.40q, %v", code, got, ok)
		}
	}
}

// P13.2: texts that are the signs of no bytes.
func TestDecodeOfOthers(t *testing.T) {
	wrong := []string{
		"=", "==", "===", "====", "=====", "========", "A", "AA", "AAA", "A=", "A==", "A===", "AA=", "AAA==", "AA===", "AAAA=", "AAAA==", "AAAA===", "AAAA====", "====AAAA",
		"=AAA", "A=AA", "AA=A", "=AA=", "A=A=", "==AA", "=A==", "YQ==YQ==", "YWE=YWE=", "YQ==AAAA", "YWE=AAAA", "AAAAYQ==AAAA", "YQ==\n", "YQ\n==", "\nYQ==", "YQ==\r\n", "YW Fh", " YQ==", "YQ== ", "YQ =", "YQ==\x00", "YQ\x00\x00", "YQ=A", "YQ=\n",
		"YR==", "YWF=", "AB==", "AAB=", "AP==", "AAD=", "//9=", "/x==", "//==", "///=",
		"AAA-", "AAA_", "A-A=", "A_==", "AAA.", "AAA*", "AAA@", "AAA[", "AAA`", "AAA{", "AAA:", "AAA,", "\xff\xff\xff\xff", "AAAé", "ééAA", "AAAAA", "AAAAAA", "AAAAAAA",
	}
	for _, s := range wrong {
		if got, ok := b64.Decode(s); got != "" || ok {
			t.Errorf("Decode(%q): %q, %v", s, got, ok)
		}
	}
	for _, good := range []string{"AAAA", "Zm9vYmFy", "Zm9vYmE=", "Zm9vYg=="} {
		for at := range len(good) {
			for c := range 256 {
				b := []byte(good)
				b[at] = byte(c)
				mayBe(t, string(b))
			}
			cut, doubled := good[:at]+good[at+1:], good[:at]+good[at:at+1]+good[at:]
			mayBe(t, cut)
			mayBe(t, doubled)
		}
	}
}

// mayBe judges Decode of s: the library tells the bytes, but passes over line ends, which no Encode has.
func mayBe(t *testing.T, s string) {
	t.Helper()
	want, err := base64.StdEncoding.Strict().DecodeString(s)
	ok := err == nil && plain(string(want)) == s
	got, is := b64.Decode(s)
	if is != ok || is && got != string(want) || !is && got != "" {
		t.Errorf("Decode(%q): %q, %v", s, got, is)
	}
}

// P13.2: of all texts of one group just the signs of bytes are decoded, each to bytes of its own.
func TestAllGroups(t *testing.T) {
	two, three := 0, 0
	for _, a := range signs {
		for _, b := range signs {
			head := string(a) + string(b)
			two += decoded(t, head+"==", 1)
			for _, c := range signs {
				three += decoded(t, head+string(c)+"=", 2)
			}
		}
	}
	if two != 1<<8 || three != 1<<16 {
		t.Errorf("%d texts are one byte, %d are two", two, three)
	}
	r := rand.New(rand.NewSource(3))
	for range 100000 {
		s := string([]byte{signs[r.Intn(64)], signs[r.Intn(64)], signs[r.Intn(64)], signs[r.Intn(64)]})
		if decoded(t, s, 3) != 1 {
			t.Fatalf("Decode(%q): none", s)
		}
	}
}

// decoded is 1 if s is decoded, and tells what is wrong with it then, if it isn't what encodes to s, of that many bytes.
func decoded(t *testing.T, s string, size int) int {
	got, ok := b64.Decode(s)
	if !ok {
		if got != "" {
			t.Errorf("Decode(%q): %q, false", s, got)
		}
		return 0
	}
	if len(got) != size || plain(got) != s {
		t.Errorf("Decode(%q): %q", s, got)
	}
	return 1
}

// P13.2: how many signs there are.
func TestSize(t *testing.T) {
	for n, want := range map[int]int{
		0: 0, 1: 4, 2: 4, 3: 4, 4: 8, 5: 8, 6: 8, 7: 12, 32: 44, 4096: 5464, 1<<31 - 1: 2863311532, 1<<40 - 2: 1466015503700, 1<<40 - 1: 1466015503700, 1 << 40: 1466015503704,
		-1: -1, -2: -1, -3: -1, -4: -1, math.MinInt: -1, 1<<40 + 1: -1, 1<<40 + 2: -1, 1 << 41: -1, 1 << 62: -1, math.MaxInt: -1, math.MaxInt - 2: -1,
	} {
		if got := b64.Size(n); got != want {
			t.Errorf("Size(%d): %d, want %d", n, got, want)
		}
	}
	for n := range 300 {
		if got := len(b64.Encode(strings.Repeat("x", n))); got != b64.Size(n) {
			t.Errorf("%d bytes: %d signs, not %d", n, got, b64.Size(n))
		}
	}
}

// P13.3: two texts, one behind the other.
func TestJoined(t *testing.T) {
	r := rand.New(rand.NewSource(4))
	for n := range 40 {
		for m := range 40 {
			a, b := random(r, n), random(r, m)
			code := b64.Encode(a) + b64.Encode(b)
			got, ok := b64.Decode(code)
			if n%3 == 0 && (code != b64.Encode(a+b) || got != a+b || !ok) {
				t.Fatalf("%q and %q: %q, %q", a, b, code, got)
			}
			if n%3 != 0 && m > 0 && (ok || got != "") {
				t.Fatalf("%q and %q: %q is decoded", a, b, code)
			}
		}
	}
}
