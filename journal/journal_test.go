package journal_test

import (
	"encoding/binary"
	"hash/adler32"
	"math"
	"math/rand"
	"slices"
	"strings"
	"testing"

	"armada/api"
	"armada/journal"
)

const (
	begin = 1
	tx    = 2
)

// full is s, filled with bytes 0 up to a sector.
func full(s string) string {
	return s + strings.Repeat("\x00", 32-len(s))
}

// raw is a head's sector, by chapter 3, whether its numbers are within their limits or not.
func raw(kind byte, gen, seq, size, sum int) string {
	b := []byte{'H', kind}
	for _, n := range []int{gen, seq, size, sum} {
		b = binary.BigEndian.AppendUint32(b, uint32(n))
	}
	return full(string(b))
}

// head is the sector of the head of a payload.
func head(kind byte, gen, seq int, payload string) string {
	return raw(kind, gen, seq, len(payload), int(adler32.Checksum([]byte(payload))))
}

// data are the sectors of a payload.
func data(payload string) []string {
	var l []string
	for len(payload) > 31 {
		l = append(l, "D"+payload[:31])
		payload = payload[31:]
	}
	if payload != "" {
		l = append(l, full("D"+payload))
	}
	return l
}

// record is a head of Kind Tx, and the sectors of its payload.
func record(gen, seq int, payload string) []string {
	return append([]string{head(tx, gen, seq, payload)}, data(payload)...)
}

// laid are the sectors of a log of that generation and these items.
func laid(gen int, items ...string) []string {
	l := []string{head(begin, gen, 0, "")}
	for i, s := range items {
		l = append(l, record(gen, i, s)...)
	}
	return l
}

// on is a disk of n sectors 0, from which on these stand, at that place.
func on(n int, from int, sectors ...string) api.Disk {
	d := api.Disk{Sectors: slices.Repeat([]string{full("")}, n)}
	copy(d.Sectors[from:], sectors)
	return d
}

// set is d with a sector that is another one.
func set(d api.Disk, at int, s string) api.Disk {
	out := deep(d)
	out.Sectors[at] = s
	return out
}

// cached is d, with a write more that is not flushed.
func cached(d api.Disk, at int, s string) api.Disk {
	out := deep(d)
	out.Cache = append(out.Cache, api.Write{At: at, Data: s})
	return out
}

// deep is a copy of d that shares no list with it.
func deep(d api.Disk) api.Disk {
	return api.Disk{Sectors: slices.Clone(d.Sectors), Cache: slices.Clone(d.Cache)}
}

func same(a, b api.Disk) bool {
	return slices.Equal(a.Sectors, b.Sectors) && slices.Equal(a.Cache, b.Cache)
}

func equal(a, b journal.Log) bool {
	return a.Gen == b.Gen && a.Next == b.Next && slices.Equal(a.Items, b.Items)
}

// opens holds what Open tells against what is wanted.
func opens(t *testing.T, what string, d api.Disk, r journal.Region, want journal.Log, wantErr api.Errno) {
	t.Helper()
	was := deep(d)
	got, e := journal.Open(d, r)
	if e != wantErr || !equal(got, want) {
		t.Errorf("%s: Open(%v): %v, %d; want %v, %d", what, r, got, e, want, wantErr)
	}
	if !same(d, was) {
		t.Errorf("%s: the disk was changed", what)
	}
}

// wrongRegions are regions that may not be.
func wrongRegions() []journal.Region {
	return []journal.Region{
		{}, {0, 0}, {0, 1}, {5, 1}, {5, 0}, {5, -1}, {-1, 5}, {-1, 2}, {0, -2}, {0, 513}, {1, 512}, {511, 2}, {510, 3}, {512, 2}, {512, 0}, {600, 2}, {4, math.MinInt},
		{math.MaxInt, 2}, {2, math.MaxInt}, {math.MaxInt, math.MaxInt}, {math.MinInt, 2}, {math.MinInt, math.MaxInt}, {math.MinInt, math.MinInt}, {math.MaxInt, math.MinInt},
	}
}

// wrongDisks are disks that may not be, which have a log nevertheless.
func wrongDisks() []api.Disk {
	d := on(8, 0, laid(3, "a")...)
	return []api.Disk{
		{}, set(d, 7, ""), set(d, 7, full("")+"\x00"), cached(d, 8, full("")), cached(d, -1, full("")), cached(d, 7, "short"),
		{Sectors: slices.Concat(d.Sectors, slices.Repeat([]string{full("")}, 505))},
	}
}

// The chapter's words: what a region may be.
func TestCheck(t *testing.T) {
	for _, r := range []journal.Region{{0, 2}, {0, 3}, {0, 512}, {1, 511}, {256, 256}, {510, 2}, {7, 9}} {
		if !r.Check() {
			t.Errorf("%v may not be", r)
		}
	}
	for _, r := range wrongRegions() {
		if r.Check() {
			t.Errorf("%v may be", r)
		}
	}
}

// P4.1: a region that may not be, or does not lie on the disk, is told first.
func TestOpenWrong(t *testing.T) {
	d := on(8, 0, laid(3, "a")...)
	for _, r := range wrongRegions() {
		opens(t, "wrong region", d, r, journal.Log{}, api.ErrArg)
	}
	for _, bad := range wrongDisks() {
		opens(t, "wrong disk", bad, journal.Region{From: 0, Size: 8}, journal.Log{}, api.ErrArg)
		opens(t, "wrong disk", bad, journal.Region{From: 4, Size: 4}, journal.Log{}, api.ErrArg)
	}
	for _, r := range []journal.Region{{0, 9}, {1, 8}, {7, 2}, {8, 2}, {9, 2}, {510, 2}, {0, 512}} {
		opens(t, "region not on the disk", d, r, journal.Log{}, api.ErrArg)
	}
	opens(t, "region of all", d, journal.Region{From: 0, Size: 8}, journal.Log{Gen: 3, Items: []string{"a"}, Next: 3}, api.OK)
}

// P4.1: there is a log only where the first sector is the head that begins one.
func TestOpenNone(t *testing.T) {
	good := on(8, 2, laid(3, "a")...)
	r := journal.Region{From: 2, Size: 6}
	for i, s := range []string{
		full(""), full("H"), head(tx, 3, 0, ""), head(begin, 3, 1, ""), head(begin, 3, 0, "a"), head(begin, 3, 0, "\x00"),
		raw(begin, 3, 0, 0, 0), raw(begin, 3, 0, 0, 2), raw(begin, 3, 0, 1, 1), raw(0, 3, 0, 0, 1), raw(3, 3, 0, 0, 1), raw(begin, 1<<30+1, 0, 0, 1),
		raw(begin, 3, 0, 0, 65536*65521+1), head(begin, 3, 0, "")[:31] + "\x01", "h" + head(begin, 3, 0, "")[1:], data("a")[0],
	} {
		opens(t, "first sector "+string(rune('a'+i)), set(good, 2, s), r, journal.Log{}, api.ErrNone)
		opens(t, "first sector in the cache "+string(rune('a'+i)), cached(good, 2, s), r, journal.Log{}, api.ErrNone)
	}
	opens(t, "all 0", on(2, 0), journal.Region{From: 0, Size: 2}, journal.Log{}, api.ErrNone)
	// It is there where the region begins, and nowhere else.
	opens(t, "one ahead", good, journal.Region{From: 1, Size: 6}, journal.Log{}, api.ErrNone)
	opens(t, "one behind", good, journal.Region{From: 3, Size: 5}, journal.Log{}, api.ErrNone)
}

// P4.1: the items, one behind the other, and the sector behind them.
func TestOpen(t *testing.T) {
	long := strings.Repeat("0123456789", 409) + "012345"
	for _, c := range []struct {
		what  string
		gen   int
		items []string
		next  int
	}{
		{"none", 0, nil, 1},
		{"the greatest gen", 1 << 30, nil, 1},
		{"one empty item", 1, []string{""}, 2},
		{"empty items", 1, []string{"", "", ""}, 4},
		{"one sector", 5, []string{"a"}, 3},
		{"31 bytes", 5, []string{strings.Repeat("x", 31)}, 3},
		{"32 bytes", 5, []string{strings.Repeat("x", 32)}, 4},
		{"several", 77, []string{"one", "", strings.Repeat("two", 40), "\x00\x00", "DDD", head(tx, 77, 5, "")}, 16},
		{"4096 bytes", 9, []string{long, "a", long}, 1 + 134 + 2 + 134},
	} {
		d := on(300, 0, laid(c.gen, c.items...)...)
		want := journal.Log{Gen: c.gen, Items: c.items, Next: c.next}
		opens(t, c.what, d, journal.Region{From: 0, Size: 300}, want, api.OK)
		want.Next += 212
		opens(t, c.what+", at the end of 512", on(512, 212, laid(c.gen, c.items...)...), journal.Region{From: 212, Size: 300}, want, api.OK)
		// A sector is what was last written of it, flushed or not.
		written := on(300, 0)
		for at, s := range laid(c.gen, c.items...) {
			written = cached(cached(written, at, full("x")), at, s)
		}
		want.Next = c.next
		opens(t, c.what+", in the cache", written, journal.Region{From: 0, Size: 300}, want, api.OK)
	}
}

// P4.1: the items end where no record of that generation and number stands.
func TestOpenEnds(t *testing.T) {
	one := journal.Log{Gen: 3, Items: []string{"one"}, Next: 5}
	r := journal.Region{From: 2, Size: 14}
	two := strings.Repeat("two", 13)
	good := on(20, 2, laid(3, "one", two, "three")...)
	opens(t, "nothing wrong", good, r, journal.Log{Gen: 3, Items: []string{"one", two, "three"}, Next: 10}, api.OK)
	for i, s := range []string{
		full(""), head(begin, 3, 1, two), head(tx, 2, 1, two), head(tx, 4, 1, two), head(tx, 3, 0, two), head(tx, 3, 2, two), head(tx, 3, 1, "one"),
		raw(tx, 3, 1, 39, 1), raw(tx, 3, 1, 38, int(adler32.Checksum([]byte(two)))), raw(tx, 3, 1, 38, int(adler32.Checksum([]byte(two[:38])))),
		head(tx, 3, 1, two+"x"), head(tx, 3, 1, two+"\x00")[:31] + "\x01", head(tx, 3, 1, two)[:31] + "\x01", raw(tx, 3, 1, 4097, 1), data("x")[0],
		raw(tx, 3, 1, 0, 2), head(tx, 3, 1, two+strings.Repeat("\x00", 62)),
	} {
		opens(t, "head "+string(rune('a'+i)), set(good, 5, s), r, one, api.OK)
	}
	for i, s := range []string{full(""), head(tx, 3, 1, two), data("x")[0], "H" + data(two)[0][1:], "d" + data(two)[0][1:], data(two)[0][:31] + "\x00"} {
		opens(t, "first data "+string(rune('a'+i)), set(good, 6, s), r, one, api.OK)
	}
	for i, s := range []string{full(""), full("D"), data(two)[1][:31] + "x", data(two)[1][:9] + "x" + data(two)[1][10:], data(two)[0]} {
		opens(t, "last data "+string(rune('a'+i)), set(good, 7, s), r, one, api.OK)
	}
	opens(t, "the first is none", set(good, 3, full("")), r, journal.Log{Gen: 3, Next: 3}, api.OK)
	// One byte 0 more at the end of a payload is told by the size, and the sum.
	zeros := journal.Log{Gen: 3, Items: []string{"one", two + "\x00"}, Next: 8}
	opens(t, "a byte 0 more", set(set(good, 5, head(tx, 3, 1, two+"\x00")), 8, full("")), r, zeros, api.OK)
	// A record of the number that comes next, but one sector farther, is none.
	gap := slices.Concat(laid(3, "one"), []string{full("")}, record(3, 1, two))
	opens(t, "a gap", on(20, 2, gap...), r, one, api.OK)
}

// P4.1: a record that does not end in the region is none, though its sectors stand on the disk.
func TestOpenAtTheEnd(t *testing.T) {
	x := strings.Repeat("x", 40)
	d := on(20, 2, laid(3, "one", x)...)
	one, two := journal.Log{Gen: 3, Items: []string{"one"}, Next: 5}, journal.Log{Gen: 3, Items: []string{"one", x}, Next: 8}
	for size, want := range map[int]journal.Log{
		2: {Gen: 3, Next: 3}, 3: one, 4: one, 5: one, 6: two, 7: two, 18: two,
	} {
		opens(t, "a piece", d, journal.Region{From: 2, Size: size}, want, api.OK)
	}
	// A head alone may be the last sector.
	empty := on(4, 0, laid(3, "", "", "")...)
	opens(t, "full of heads", empty, journal.Region{From: 0, Size: 4}, journal.Log{Gen: 3, Items: []string{"", "", ""}, Next: 4}, api.OK)
	opens(t, "two heads", empty, journal.Region{From: 0, Size: 2}, journal.Log{Gen: 3, Items: []string{""}, Next: 2}, api.OK)
	last := on(4, 0, append(laid(3, "", ""), head(tx, 3, 2, "x"))...)
	opens(t, "a head without its data at the end", last, journal.Region{From: 0, Size: 4}, journal.Log{Gen: 3, Items: []string{"", ""}, Next: 3}, api.OK)
	most := on(4, 0, append(laid(3, "", ""), raw(tx, 3, 2, 4096, 1))...)
	opens(t, "a head of much more", most, journal.Region{From: 0, Size: 4}, journal.Log{Gen: 3, Items: []string{"", ""}, Next: 3}, api.OK)
}

// P4.2: the head that begins, and a flush.
func TestStart(t *testing.T) {
	for _, r := range []journal.Region{{0, 2}, {0, 512}, {510, 2}, {7, 20}} {
		for _, gen := range []int{0, 1, 77, 1 << 30} {
			want := []api.Act{{At: r.From, Data: head(begin, gen, 0, "")}, {Flush: true}}
			if got, e := journal.Start(r, gen); e != api.OK || !slices.Equal(got, want) {
				t.Errorf("Start(%v, %d): %v, %d; want %v", r, gen, got, e, want)
			}
		}
		for _, gen := range []int{-1, 1<<30 + 1, 1 << 32, math.MinInt, math.MaxInt} {
			if got, e := journal.Start(r, gen); e != api.ErrArg || len(got) != 0 {
				t.Errorf("Start(%v, %d): %v, %d", r, gen, got, e)
			}
		}
	}
	for _, r := range wrongRegions() {
		if got, e := journal.Start(r, 1); e != api.ErrArg || len(got) != 0 {
			t.Errorf("Start(%v): %v, %d", r, got, e)
		}
	}
}

// P4.3: the payload behind the place of its head, a flush, the head, a flush.
func TestAdd(t *testing.T) {
	long := strings.Repeat("0123456789", 409) + "012345"
	for _, c := range []struct {
		r       journal.Region
		l       journal.Log
		payload string
	}{
		{journal.Region{From: 0, Size: 2}, journal.Log{Next: 1}, ""},
		{journal.Region{From: 0, Size: 3}, journal.Log{Gen: 3, Next: 1}, "one"},
		{journal.Region{From: 0, Size: 3}, journal.Log{Gen: 3, Next: 1}, strings.Repeat("x", 31)},
		{journal.Region{From: 0, Size: 4}, journal.Log{Gen: 3, Next: 1}, strings.Repeat("x", 32)},
		{journal.Region{From: 20, Size: 30}, journal.Log{Gen: 1 << 30, Items: []string{"a", "b"}, Next: 48}, "\x00"},
		{journal.Region{From: 20, Size: 30}, journal.Log{Gen: 4, Items: []string{"a", "b"}, Next: 49}, ""},
		{journal.Region{From: 20, Size: 30}, journal.Log{Gen: 4, Items: []string{"a", "b", "c"}, Next: 21}, strings.Repeat("some bytes", 20)},
		{journal.Region{From: 20, Size: 200}, journal.Log{Gen: 4, Items: []string{"a", "b", "c"}, Next: 86}, long},
		{journal.Region{From: 0, Size: 512}, journal.Log{Gen: 4, Items: make([]string, 65535), Next: 511}, ""},
		{journal.Region{From: 510, Size: 2}, journal.Log{Gen: 4, Items: make([]string, 65534), Next: 511}, ""},
	} {
		var want []api.Act
		for i, s := range data(c.payload) {
			want = append(want, api.Act{At: c.l.Next + 1 + i, Data: s})
		}
		want = append(want, api.Act{Flush: true}, api.Act{At: c.l.Next, Data: head(tx, c.l.Gen, len(c.l.Items), c.payload)}, api.Act{Flush: true})
		if got, e := journal.Add(c.r, c.l, c.payload); e != api.OK || !slices.Equal(got, want) {
			t.Errorf("Add(%v, %d items, %d bytes): %v, %d; want %v", c.r, len(c.l.Items), len(c.payload), got, e, want)
		}
	}
}

// P4.3: the errors, and which of them holds first.
func TestAddWrong(t *testing.T) {
	r := journal.Region{From: 4, Size: 8}
	good := journal.Log{Gen: 3, Items: []string{"a"}, Next: 7}
	long, most := strings.Repeat("x", 4097), strings.Repeat("x", 4096)
	fails := func(what string, r journal.Region, l journal.Log, payload string, want api.Errno) {
		t.Helper()
		if got, e := journal.Add(r, l, payload); e != want || len(got) != 0 {
			t.Errorf("%s: %v, %d; want %d", what, got, e, want)
		}
	}
	for _, bad := range wrongRegions() {
		for _, payload := range []string{"", "a", most, long} {
			fails("region", bad, journal.Log{Gen: 3, Next: bad.From + 1}, payload, api.ErrArg)
			fails("region", bad, good, payload, api.ErrArg)
		}
	}
	for _, payload := range []string{"", most, long} {
		for _, gen := range []int{-1, 1<<30 + 1, 1 << 32, math.MinInt, math.MaxInt} {
			fails("gen", r, journal.Log{Gen: gen, Next: 7}, payload, api.ErrArg)
		}
		for _, next := range []int{0, 3, 4, -1, 13, 14, 511, math.MinInt, math.MaxInt} {
			fails("next", r, journal.Log{Gen: 3, Next: next}, payload, api.ErrArg)
		}
		fails("items", r, journal.Log{Gen: 3, Items: make([]string, 65536), Next: 7}, payload, api.ErrArg)
		fails("items, full", r, journal.Log{Gen: 3, Items: make([]string, 65536), Next: 12}, payload, api.ErrArg)
	}
	fails("size", r, good, long, api.ErrSize)
	fails("size, full", r, journal.Log{Gen: 3, Next: 12}, long, api.ErrSize)
	fails("size, in all", journal.Region{From: 0, Size: 512}, journal.Log{Next: 1}, long, api.ErrSize)
	fails("full, no sector", r, journal.Log{Gen: 3, Next: 12}, "", api.ErrFull)
	fails("full, a head alone", r, journal.Log{Gen: 3, Next: 11}, "a", api.ErrFull)
	fails("full, one too few", r, good, strings.Repeat("x", 125), api.ErrFull)
	fails("full, 4096 bytes", journal.Region{From: 0, Size: 134}, journal.Log{Next: 1}, most, api.ErrFull)
	if got, e := journal.Add(r, good, strings.Repeat("x", 124)); e != api.OK || len(got) != 7 {
		t.Errorf("as much as there is room: %v, %d", got, e)
	}
	if got, e := journal.Add(journal.Region{From: 0, Size: 135}, journal.Log{Next: 1}, most); e != api.OK || len(got) != 136 {
		t.Errorf("4096 bytes: %d acts, %d", len(got), e)
	}
}

// P4.4: what is clean, and what is not.
func TestClean(t *testing.T) {
	r := journal.Region{From: 2, Size: 8}
	l := journal.Log{Gen: 3, Items: []string{"a", "b"}, Next: 6}
	plain := on(12, 2, laid(3, "a", "b")...)
	cleanIs := func(what string, d api.Disk, l journal.Log, want bool) {
		t.Helper()
		was := deep(d)
		if got := journal.Clean(d, r, l); got != want {
			t.Errorf("%s: %v", what, got)
		}
		if !same(d, was) {
			t.Errorf("%s: the disk was changed", what)
		}
	}
	l.Next = 7
	cleanIs("as it was laid", plain, l, true)
	for at, within := range map[int]bool{0: false, 1: false, 2: false, 6: false, 7: true, 8: true, 9: true, 10: false, 11: false} {
		cleanIs("a head of that number", set(plain, at, head(tx, 3, 2, "")), l, !within)
		cleanIs("a head of a number above", set(plain, at, raw(tx, 3, 65535, 4096, 0)), l, !within)
		cleanIs("a head in the cache", cached(plain, at, head(tx, 3, 2, "c")), l, !within)
		cleanIs("a head that was written over", cached(set(plain, at, head(tx, 3, 2, "c")), at, full("")), l, true)
		cleanIs("a head of a number below", set(plain, at, head(tx, 3, 1, "c")), l, true)
		cleanIs("a head of a gen below", set(plain, at, head(tx, 2, 2, "c")), l, true)
		cleanIs("a head of a gen above", set(plain, at, head(tx, 4, 2, "c")), l, true)
		cleanIs("a head that begins", set(plain, at, raw(begin, 3, 2, 0, 1)), l, true)
		cleanIs("a head with a byte more", set(plain, at, head(tx, 3, 2, "c")[:31]+"\x01"), l, true)
		cleanIs("data", set(plain, at, data("c")[0]), l, true)
	}
	dirty := set(plain, 9, head(tx, 3, 2, ""))
	for next, want := range map[int]bool{math.MinInt: false, -1: false, 0: false, 2: false, 8: false, 9: false, 10: true, 11: true, 600: true, math.MaxInt: true} {
		cleanIs("from Next on", dirty, journal.Log{Gen: 3, Items: []string{"a", "b"}, Next: next}, want)
	}
	for _, next := range []int{math.MinInt, -1, 0, 1, 2} {
		early := set(on(12, 2), 1, head(tx, 3, 2, ""))
		cleanIs("ahead of the region", early, journal.Log{Gen: 3, Items: []string{"a", "b"}, Next: next}, true)
		early = set(early, 2, head(tx, 3, 2, ""))
		cleanIs("the region's first", early, journal.Log{Gen: 3, Items: []string{"a", "b"}, Next: next}, false)
	}
	cleanIs("no items", plain, journal.Log{Gen: 3, Next: 3}, false)
	cleanIs("three items", dirty, journal.Log{Gen: 3, Items: []string{"a", "b", "c"}, Next: 7}, true)
	for _, gen := range []int{-1, 0, 1<<30 + 1, math.MinInt, math.MaxInt} {
		cleanIs("a gen that no head has", dirty, journal.Log{Gen: gen, Next: 7}, true)
	}
}

// P4.4: nothing is clean where the region does not lie on the disk.
func TestCleanWrong(t *testing.T) {
	d := on(8, 0, laid(3, "a")...)
	l := journal.Log{Gen: 3, Items: []string{"a"}, Next: 3}
	for _, r := range append(wrongRegions(), journal.Region{From: 0, Size: 9}, journal.Region{From: 7, Size: 2}, journal.Region{From: 510, Size: 2}) {
		if journal.Clean(d, r, l) || journal.Clean(d, r, journal.Log{}) || journal.Clean(d, r, journal.Log{Next: math.MaxInt}) {
			t.Errorf("%v is clean", r)
		}
	}
	for i, bad := range wrongDisks() {
		if journal.Clean(bad, journal.Region{From: 0, Size: 8}, l) || journal.Clean(bad, journal.Region{From: 0, Size: 8}, journal.Log{Next: 600}) {
			t.Errorf("disk %d is clean", i)
		}
	}
}

// done is d, with the first n acts done, told here by itself; each write is in the cache.
func done(d api.Disk, l []api.Act, n int) api.Disk {
	out := deep(d)
	for _, a := range l[:n] {
		if a.Flush {
			out = crashed(out, math.MaxUint)
		} else {
			out.Cache = append(out.Cache, api.Write{At: a.At, Data: full(a.Data)})
		}
	}
	return out
}

// crashed is d after a crash that keeps those writes whose bits are set.
func crashed(d api.Disk, mask uint) api.Disk {
	out := deep(d)
	for i, w := range d.Cache {
		if mask>>i&1 == 1 {
			out.Sectors[w.At] = w.Data
		}
	}
	out.Cache = nil
	return out
}

// P4.5: whatever is done of an Add, and whatever of it a crash keeps, a clean log is as it was, or has that payload more.
func TestEachCrash(t *testing.T) {
	r := journal.Region{From: 1, Size: 12}
	old := slices.Concat(record(2, 0, "old"), record(3, 0, "below"), []string{full("noise"), head(tx, 4, 1, ""), head(begin, 3, 1, "")}, data("more"))
	for _, payload := range []string{"", "a", strings.Repeat("two", 15), strings.Repeat("four", 30)} {
		d := on(14, 0, append([]string{head(tx, 3, 1, "")}, slices.Concat(laid(3, "one"), old)...)...)
		before, e := journal.Open(d, r)
		if e != api.OK || !journal.Clean(d, r, before) || len(before.Items) != 1 {
			t.Fatalf("%v, %d", before, e)
		}
		acts, e := journal.Add(r, before, payload)
		if e != api.OK {
			t.Fatalf("Add: %d", e)
		}
		after := journal.Log{Gen: 3, Items: []string{"one", payload}, Next: before.Next + len(acts) - 2}
		for n := range len(acts) + 1 {
			cachedDisk := done(d, acts, n)
			for mask := range uint(1) << len(cachedDisk.Cache) {
				now := crashed(cachedDisk, mask)
				got, e := journal.Open(now, r)
				if e != api.OK || !equal(got, before) && !equal(got, after) {
					t.Fatalf("%d acts, mask %b: %v, %d", n, mask, got, e)
				}
				if n == len(acts) && !equal(got, after) {
					t.Errorf("%d acts, mask %b: it is lost", n, mask)
				}
				if n < len(acts)-1 && !equal(got, before) {
					t.Errorf("%d acts, mask %b: it is there too early", n, mask)
				}
				if !journal.Clean(now, r, got) {
					t.Errorf("%d acts, mask %b: not clean", n, mask)
				}
			}
		}
	}
}

// P4.5: log after log, with crashes in between, is what a plain list of items is.
func TestAgainstModel(t *testing.T) {
	rnd := rand.New(rand.NewSource(1))
	for range 200 {
		r := journal.Region{From: rnd.Intn(4), Size: 2 + rnd.Intn(40)}
		d := on(50, 0)
		gen := 0
		var items []string
		acts, _ := journal.Start(r, gen)
		d = done(d, acts, len(acts))
		for range 30 {
			l, e := journal.Open(d, r)
			if e != api.OK || l.Gen != gen || !slices.Equal(l.Items, items) || !journal.Clean(d, r, l) {
				t.Fatalf("%v, %d; want %d, %q", l, e, gen, items)
			}
			payload := strings.Repeat(string(rune('a'+rnd.Intn(26))), rnd.Intn(100))
			acts, e := journal.Add(r, l, payload)
			if e == api.ErrFull {
				gen++
				items = nil
				acts, _ = journal.Start(r, gen)
				d = done(d, acts, len(acts))
				continue
			}
			n := rnd.Intn(len(acts) + 1)
			d = crashed(done(d, acts, n), uint(rnd.Uint64()))
			if n == len(acts) {
				items = append(slices.Clone(items), payload)
			} else if now, _ := journal.Open(d, r); n == len(acts)-1 && len(now.Items) > len(items) {
				items = append(slices.Clone(items), payload)
			}
		}
	}
}

// R5: what is handed in is not changed, nor what was told before, even where a list has room behind its end.
func TestNothingIsChanged(t *testing.T) {
	r := journal.Region{From: 0, Size: 30}
	d := on(30, 0, laid(3, "one", "two")...)
	d.Cache = make([]api.Write, 0, 8)
	l, _ := journal.Open(d, r)
	l.Items = append(make([]string, 0, 8), l.Items...)
	x, _ := journal.Add(r, l, "x")
	was := slices.Clone(x)
	journal.Add(r, l, "y")
	journal.Start(r, 9)
	journal.Clean(d, r, l)
	if !slices.Equal(x, was) || !slices.Equal(l.Items, []string{"one", "two"}) || l.Items[:8][2] != "" || d.Cache[:8][0] != (api.Write{}) {
		t.Errorf("changed: %v, %v", x, l)
	}
	first, _ := journal.Open(d, r)
	first.Items[0] = "changed"
	second, _ := journal.Open(d, r)
	if !equal(second, journal.Log{Gen: 3, Items: []string{"one", "two"}, Next: 5}) {
		t.Errorf("what was told is kept: %v", second)
	}
}
