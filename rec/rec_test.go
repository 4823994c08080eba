package rec_test

import (
	"encoding/binary"
	"hash/adler32"
	"math"
	"math/rand"
	"slices"
	"strings"
	"testing"

	"armada/rec"
)

const top = 65520*65536 + 65520

// raw is what a head's bytes are, by the chapter, whether its numbers are within their limits or not.
func raw(kind byte, numbers ...uint32) string {
	b := []byte{'H', kind}
	for _, n := range numbers {
		b = binary.BigEndian.AppendUint32(b, n)
	}
	return full(string(b))
}

// full is s, filled with bytes 0 up to a sector.
func full(s string) string {
	return s + strings.Repeat("\x00", 32-len(s))
}

// bytes are n bytes of which neighbours are unlike, and none is 0.
func bytes(n int) string {
	b := make([]byte, n)
	for i := range b {
		b[i] = byte(1 + i%255)
	}
	return string(b)
}

// goodHeads are heads that have a text, with it.
func goodHeads() map[rec.Head]string {
	return map[rec.Head]string{
		{Kind: 1, Sum: 1}: "H\x01" + "\x00\x00\x00\x00" + "\x00\x00\x00\x00" + "\x00\x00\x00\x00" + "\x00\x00\x00\x01" + strings.Repeat("\x00", 14),
		{Kind: 2, Gen: 0x01020304, Seq: 0x0506, Size: 0x0708, Sum: 0x090a0b0c}: "H\x02\x01\x02\x03\x04\x00\x00\x05\x06\x00\x00\x07\x08\x09\x0a\x0b\x0c" + strings.Repeat("\x00", 14),
		{Kind: 1}:               raw(1, 0, 0, 0, 0),
		{Kind: 2}:               raw(2, 0, 0, 0, 0),
		{Kind: 1, Gen: 1 << 30}: raw(1, 1<<30, 0, 0, 0),
		{Kind: 2, Seq: 65535}:   raw(2, 0, 65535, 0, 0),
		{Kind: 2, Size: 4096}:   raw(2, 0, 0, 4096, 0),
		{Kind: 2, Sum: top}:     raw(2, 0, 0, 0, top),
		{Kind: 2, Sum: 65520}:   raw(2, 0, 0, 0, 65520),
		{Kind: 2, Sum: 65536}:   raw(2, 0, 0, 0, 65536),
		{Kind: 2, Gen: 1 << 30, Seq: 65535, Size: 4096, Sum: top}: raw(2, 1<<30, 65535, 4096, top),
		{Kind: 1, Gen: 7, Seq: 1, Size: 2, Sum: 3}:                raw(1, 7, 1, 2, 3),
	}
}

// P3.1: the text of a head, byte by byte, and back.
func TestText(t *testing.T) {
	for h, want := range goodHeads() {
		if got, ok := h.Text(); !ok || got != want {
			t.Errorf("%v: %q, %v; want %q", h, got, ok, want)
		}
		if got, ok := rec.Read(want); !ok || got != h {
			t.Errorf("Read(%q): %v, %v; want %v", want, got, ok, h)
		}
	}
	if rec.Begin != 1 || rec.Tx != 2 {
		t.Errorf("kinds are %d and %d", rec.Begin, rec.Tx)
	}
}

// P3.1: a head has no text, if one of its numbers is none.
func TestNoText(t *testing.T) {
	good := rec.Head{Kind: 2, Gen: 3, Seq: 4, Size: 5, Sum: 6}
	set := func(change func(h *rec.Head, n int), numbers ...int) {
		for _, n := range numbers {
			h := good
			change(&h, n)
			if got, ok := h.Text(); ok || got != "" {
				t.Errorf("%v: %q, %v", h, got, ok)
			}
		}
	}
	set(func(h *rec.Head, n int) { h.Kind = n }, 0, 3, -1, 255, 256, 257, 258, -254, math.MinInt, math.MaxInt)
	set(func(h *rec.Head, n int) { h.Gen = n }, -1, 1<<30+1, 1<<31, 1<<32, 1<<32+3, math.MinInt, math.MaxInt)
	set(func(h *rec.Head, n int) { h.Seq = n }, -1, 65536, 1<<30, 1<<32, 1<<32+4, math.MinInt, math.MaxInt)
	set(func(h *rec.Head, n int) { h.Size = n }, -1, 4097, 8192, 1<<32, 1<<32+5, math.MinInt, math.MaxInt)
	set(func(h *rec.Head, n int) { h.Sum = n }, -1, 65521, 65535, 65521*65536, 65521*65536+1, top+1, 1<<32-1, 1<<32, 1<<32+6, math.MinInt, math.MaxInt)
	if got, ok := (rec.Head{}).Text(); ok || got != "" {
		t.Errorf("the zero head: %q, %v", got, ok)
	}
}

// P3.1: what is the text of no head is read as none.
func TestReadNone(t *testing.T) {
	good := raw(2, 3, 4, 5, 6)
	l := []string{
		"", "H", "H\x02", good[:18], good[:31], good + "\x00", good + good, "\x00" + good[:31], full(""), full("H"), full("D"),
		strings.Repeat("H", 32), strings.Repeat("\xff", 32), "h" + good[1:], "D" + good[1:], "\x00" + good[1:],
		raw(0, 3, 4, 5, 6), raw(3, 3, 4, 5, 6), raw(255, 3, 4, 5, 6),
		raw(2, 1<<30+1, 4, 5, 6), raw(2, 1<<31, 4, 5, 6), raw(2, 1<<32-1, 4, 5, 6),
		raw(2, 3, 65536, 5, 6), raw(2, 3, 1<<31, 5, 6), raw(2, 3, 1<<32-1, 5, 6),
		raw(2, 3, 4, 4097, 6), raw(2, 3, 4, 1<<31, 6), raw(2, 3, 4, 1<<32-1, 6),
		raw(2, 3, 4, 5, 65521), raw(2, 3, 4, 5, 65535), raw(2, 3, 4, 5, 65521*65536), raw(2, 3, 4, 5, top+1), raw(2, 3, 4, 5, 1<<32-1),
	}
	for i := 18; i < 32; i++ {
		l = append(l, good[:i]+"\x01"+good[i+1:], good[:i]+"\xff"+good[i+1:])
	}
	for _, s := range l {
		if h, ok := rec.Read(s); ok || h != (rec.Head{}) {
			t.Errorf("Read(%q): %v, %v", s, h, ok)
		}
	}
}

// P3.1: whatever one byte of a head is, it is read as the head that has that text, or as none.
func TestReadEachByte(t *testing.T) {
	good := raw(2, 1<<30, 0xffff, 4096, top)
	for i := range len(good) {
		for v := range 256 {
			s := good[:i] + string([]byte{byte(v)}) + good[i+1:]
			h, ok := rec.Read(s)
			text, has := h.Text()
			if ok != has || ok && text != s {
				t.Errorf("Read(%q): %v, %v, of %q", s, h, ok, text)
			}
		}
	}
}

// P3.2: as few sectors as it takes, of 31 bytes each; -1, where there may not be so many bytes.
func TestCount(t *testing.T) {
	for size, want := range map[int]int{
		0: 0, 1: 1, 30: 1, 31: 1, 32: 2, 62: 2, 63: 3, 93: 3, 94: 4, 4092: 132, 4093: 133, 4096: 133,
		-1: -1, -31: -1, -62: -1, 4097: -1, 8192: -1, 1 << 32: -1, math.MinInt: -1, math.MaxInt: -1,
	} {
		if got := rec.Count(size); got != want {
			t.Errorf("Count(%d): %d, want %d", size, got, want)
		}
	}
	for size := range 4097 {
		if n := rec.Count(size); n*31 < size || (n-1)*31 >= size && size > 0 {
			t.Errorf("Count(%d): %d", size, n)
		}
	}
}

// P3.2: the sectors of a payload, byte by byte.
func TestCut(t *testing.T) {
	x := bytes(4097)
	for _, c := range []struct {
		payload string
		want    []string
	}{
		{"", nil},
		{"a", []string{full("Da")}},
		{"\x00", []string{full("D")}},
		{x[:30], []string{full("D" + x[:30])}},
		{x[:31], []string{"D" + x[:31]}},
		{x[:32], []string{"D" + x[:31], full("D" + x[31:32])}},
		{x[:62], []string{"D" + x[:31], "D" + x[31:62]}},
		{x[:63], []string{"D" + x[:31], "D" + x[31:62], full("D" + x[62:63])}},
		{x, nil},
		{x + x, nil},
	} {
		if got := rec.Cut(c.payload); !slices.Equal(got, c.want) {
			t.Errorf("Cut of %d bytes: %q, want %q", len(c.payload), got, c.want)
		}
	}
	got := rec.Cut(x[:4096])
	if len(got) != 133 || got[0] != "D"+x[:31] || got[131] != "D"+x[4061:4092] || got[132] != full("D"+x[4092:4096]) {
		t.Errorf("Cut of 4096 bytes: %d sectors, %q", len(got), got)
	}
}

// P3.2: what is cut is joined.
func TestJoin(t *testing.T) {
	x := bytes(4096)
	for size := range 4097 {
		if got, ok := rec.Join(rec.Cut(x[:size]), size); !ok || got != x[:size] {
			t.Errorf("Join of %d bytes: %q, %v", size, got, ok)
		}
	}
	// Bytes 0 at a payload's end can't be told from those that fill it, but by the size.
	for size := 1; size <= 31; size++ {
		want := "a" + strings.Repeat("\x00", size-1)
		if got, ok := rec.Join([]string{full("Da")}, size); !ok || got != want {
			t.Errorf("Join of %d bytes: %q, %v", size, got, ok)
		}
	}
	if got, ok := rec.Join([]string{}, 0); !ok || got != "" {
		t.Errorf("Join of none: %q, %v", got, ok)
	}
}

// P3.2: sectors that are no Cut of so many bytes tell nothing.
func TestJoinNone(t *testing.T) {
	x := bytes(4096)
	two := rec.Cut(x[:40])
	with := func(at int, s string) []string {
		l := slices.Clone(two)
		l[at] = s
		return l
	}
	for i, c := range []struct {
		l    []string
		size int
	}{
		{two, 39}, {two, 31}, {two, 32}, {two, 63}, {two, 0}, {two, -1}, {two, math.MinInt}, {two, math.MaxInt}, {two, 4097},
		{two[:1], 40}, {two[1:], 40}, {append(slices.Clone(two), full("D")), 40}, {append(slices.Clone(two), full("")), 40},
		{[]string{two[1], two[0]}, 40}, {nil, 40}, {nil, 1}, {nil, -1}, {nil, 4097}, {[]string{full("D")}, 0}, {[]string{""}, 0}, {[]string{full("")}, 1},
		{with(0, "H"+two[0][1:]), 40}, {with(0, "d"+two[0][1:]), 40}, {with(1, "\x00"+two[1][1:]), 40}, {with(1, "H"+two[1][1:]), 40},
		{with(0, ""), 40}, {with(0, two[0][:31]), 40}, {with(0, two[0]+"\x00"), 40}, {with(1, ""), 40}, {with(1, "D"), 40}, {with(1, two[1][:10]), 40},
		{with(1, two[1][:31]), 40}, {with(1, two[1]+"\x00"), 40},
		{with(1, two[1][:31]+"x"), 40}, {with(1, two[1][:10]+"x"+two[1][11:]), 40},
		{[]string{two[0] + "x", two[1][:31]}, 40}, {[]string{two[0][:31], two[1] + "\x00"}, 40},
		{rec.Cut(x), 4095}, {rec.Cut(x)[:132], 4096}, {append(rec.Cut(x), full("D")), 4097}, {append(rec.Cut(x), full("D")), 4124},
		{slices.Repeat([]string{full("D")}, 133), 4097}, {slices.Repeat([]string{full("D")}, 133), 4123},
	} {
		was := slices.Clone(c.l)
		if got, ok := rec.Join(c.l, c.size); ok || got != "" {
			t.Errorf("case %d: %q, %v", i, got, ok)
		}
		if !slices.Equal(c.l, was) {
			t.Errorf("case %d: the list was changed", i)
		}
	}
}

// P3.3: the head of a payload, its size and its sum.
func TestMake(t *testing.T) {
	x := bytes(4097)
	for _, c := range []struct {
		kind, gen, seq int
		payload        string
	}{
		{1, 0, 0, ""}, {2, 0, 0, ""}, {1, 1 << 30, 65535, "a"}, {2, 5, 6, "Wikipedia"}, {2, 5, 6, x[:4096]}, {2, 5, 6, strings.Repeat("\xff", 4096)}, {2, 5, 6, "\x00"},
	} {
		want := rec.Head{Kind: c.kind, Gen: c.gen, Seq: c.seq, Size: len(c.payload), Sum: int(adler32.Checksum([]byte(c.payload)))}
		if got, ok := rec.Make(c.kind, c.gen, c.seq, c.payload); !ok || got != want {
			t.Errorf("Make: %v, %v; want %v", got, ok, want)
		}
	}
	for _, c := range []struct {
		kind, gen, seq int
		payload        string
	}{
		{0, 1, 1, ""}, {3, 1, 1, ""}, {-1, 1, 1, ""}, {257, 1, 1, ""}, {math.MaxInt, 1, 1, ""},
		{2, -1, 1, ""}, {2, 1<<30 + 1, 1, ""}, {2, math.MaxInt, 1, ""}, {2, math.MinInt, 1, ""},
		{2, 1, -1, ""}, {2, 1, 65536, ""}, {2, 1, math.MaxInt, ""}, {2, 1, math.MinInt, ""},
		{2, 1, 1, x}, {2, 1, 1, strings.Repeat("x", 1<<20)}, {0, -1, -1, x},
	} {
		if got, ok := rec.Make(c.kind, c.gen, c.seq, c.payload); ok || got != (rec.Head{}) {
			t.Errorf("Make of %v: %v, %v", c, got, ok)
		}
	}
}

// P3.4: heads and payloads, as random as they may be, are read and joined as they were; no sector of a payload is a head, not even of a payload of heads.
func TestRoundTrips(t *testing.T) {
	r := rand.New(rand.NewSource(1))
	for i := range 2000 {
		payload := make([]byte, r.Intn(200))
		r.Read(payload)
		if i%3 == 0 {
			payload = []byte(strings.Repeat(raw(2, uint32(i), 0, 0, 1), 1+i%5)[i%32:])
		}
		h, ok := rec.Make(1+r.Intn(2), r.Intn(1<<30+1), r.Intn(65536), string(payload))
		if !ok {
			t.Fatalf("case %d: no head", i)
		}
		s, ok := h.Text()
		if got, is := rec.Read(s); !ok || !is || got != h || len(s) != 32 {
			t.Errorf("%v is read as %v, %v, %v", h, got, ok, is)
		}
		l := rec.Cut(string(payload))
		if got, ok := rec.Join(l, len(payload)); !ok || got != string(payload) {
			t.Errorf("%q is joined as %q, %v", payload, got, ok)
		}
		for _, s := range l {
			if h, ok := rec.Read(s); ok || len(s) != 32 {
				t.Errorf("%q is read as %v", s, h)
			}
		}
	}
}
