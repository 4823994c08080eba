package disk_test

import (
	"math"
	"math/rand"
	"slices"
	"strings"
	"testing"

	"armada/api"
	"armada/disk"
)

// full is data, filled with bytes 0 up to a sector.
func full(data string) string {
	return data + strings.Repeat("\x00", 32-len(data))
}

// of is a disk of these sectors, each of which is filled.
func of(sectors ...string) api.Disk {
	var d api.Disk
	for _, s := range sectors {
		d.Sectors = append(d.Sectors, full(s))
	}
	return d
}

// with is d with these writes more, whose data are filled.
func with(d api.Disk, l ...api.Write) api.Disk {
	out := deep(d)
	for _, w := range l {
		out.Cache = append(out.Cache, api.Write{At: w.At, Data: full(w.Data)})
	}
	return out
}

// deep is a copy of d that shares no list with it.
func deep(d api.Disk) api.Disk {
	return api.Disk{Sectors: slices.Clone(d.Sectors), Cache: slices.Clone(d.Cache)}
}

// same is told here by itself, lest Same be judged by Same.
func same(a, b api.Disk) bool {
	return slices.Equal(a.Sectors, b.Sectors) && slices.Equal(a.Cache, b.Cache)
}

// expect holds a disk and an error against those that are wanted.
func expect(t *testing.T, what string, d api.Disk, e api.Errno, want api.Disk, wantErr api.Errno) {
	t.Helper()
	if e != wantErr || !same(d, want) {
		t.Errorf("%s: got %v, %d; want %v, %d", what, d, e, want, wantErr)
	}
}

// wrong are disks that may not be, by names.
func wrong() map[string]api.Disk {
	good := of("a", "b")
	return map[string]api.Disk{
		"zero":                    {},
		"empty lists":             {Sectors: []string{}, Cache: []api.Write{}},
		"cache alone":             {Cache: []api.Write{{Data: full("")}}},
		"513 sectors":             {Sectors: slices.Repeat([]string{full("")}, 513)},
		"sector of 31":            {Sectors: []string{full("")[1:]}},
		"sector of 33":            {Sectors: []string{full("") + "\x00"}},
		"sector of none":          {Sectors: []string{""}},
		"last sector short":       {Sectors: []string{full(""), "x"}},
		"write behind the end":    {Sectors: good.Sectors, Cache: []api.Write{{At: 2, Data: full("x")}}},
		"write below 0":           {Sectors: good.Sectors, Cache: []api.Write{{At: -1, Data: full("x")}}},
		"write at the least int":  {Sectors: good.Sectors, Cache: []api.Write{{At: math.MinInt, Data: full("x")}}},
		"write at the most int":   {Sectors: good.Sectors, Cache: []api.Write{{At: math.MaxInt, Data: full("x")}}},
		"write of 31":             {Sectors: good.Sectors, Cache: []api.Write{{Data: full("")[1:]}}},
		"write of 33":             {Sectors: good.Sectors, Cache: []api.Write{{Data: full("") + "\x00"}}},
		"write of none":           {Sectors: good.Sectors, Cache: []api.Write{{}}},
		"second write is wrong":   {Sectors: good.Sectors, Cache: []api.Write{{At: 1, Data: full("x")}, {At: 2, Data: full("y")}}},
		"write of a second, last": {Sectors: good.Sectors, Cache: []api.Write{{At: 1, Data: full("x")}, {At: 0, Data: "y"}}},
	}
}

// P1.1: a disk of n sectors of bytes 0, for n of 1 to 512, and no others.
func TestNew(t *testing.T) {
	for _, n := range []int{1, 2, 3, 32, 100, 511, 512} {
		d, ok := disk.New(n)
		if !ok || len(d.Sectors) != n || len(d.Cache) != 0 {
			t.Errorf("New(%d): %d sectors, %d writes, %v", n, len(d.Sectors), len(d.Cache), ok)
		}
		for i, s := range d.Sectors {
			if s != strings.Repeat("\x00", 32) {
				t.Errorf("New(%d): sector %d is %q", n, i, s)
			}
		}
		if !disk.May(d) {
			t.Errorf("New(%d) may not be", n)
		}
	}
	for _, n := range []int{0, -1, 513, 514, 1 << 20, math.MinInt, math.MaxInt} {
		if d, ok := disk.New(n); ok || len(d.Sectors) != 0 || len(d.Cache) != 0 {
			t.Errorf("New(%d): %d sectors, %v", n, len(d.Sectors), ok)
		}
	}
}

// The chapter's words: what a disk may be.
func TestMay(t *testing.T) {
	big := api.Disk{Sectors: slices.Repeat([]string{full("x")}, 512)}
	good := map[string]api.Disk{
		"one sector":              of(""),
		"512 sectors":             big,
		"any bytes":               {Sectors: []string{strings.Repeat("\xff", 32)}},
		"writes":                  with(of("a", "b"), api.Write{At: 0, Data: "x"}, api.Write{At: 1, Data: "y"}),
		"write of the last one":   with(big, api.Write{At: 511, Data: "x"}),
		"more writes than places": with(of(""), make([]api.Write, 2000)...),
	}
	for name, d := range good {
		if !disk.May(d) {
			t.Errorf("%s: may not be", name)
		}
	}
	for name, d := range wrong() {
		if disk.May(d) {
			t.Errorf("%s: may be", name)
		}
	}
}

// P1.1: the same are those of the same sectors, and the same writes, in order, whether they may be or not.
func TestSame(t *testing.T) {
	x, y := api.Write{At: 0, Data: "x"}, api.Write{At: 1, Data: "x"}
	l := []api.Disk{
		{}, of("a"), of("b"), of("a", "b"), of("b", "a"), of("a", "b", ""),
		with(of("a", "b"), x), with(of("a", "b"), y), with(of("a", "b"), x, y), with(of("a", "b"), y, x),
		with(of("a", "b"), x, x), with(of("a", "b"), api.Write{At: 0, Data: "y"}),
		{Sectors: []string{"a"}}, {Cache: []api.Write{{Data: "x"}}}, {Cache: []api.Write{{}}}, {Sectors: []string{""}},
	}
	for i, a := range l {
		for j, b := range l {
			if got := disk.Same(a, deep(b)); got != (i == j) {
				t.Errorf("Same(%v, %v) is %v", a, b, got)
			}
		}
	}
	if !disk.Same(api.Disk{Sectors: []string{}, Cache: []api.Write{}}, api.Disk{}) {
		t.Error("an empty list is not the same as none")
	}
}

// P1.2: a write is laid behind all others, and is filled; wrong ones change nothing.
func TestPut(t *testing.T) {
	d := with(of("a", "b", "c"), api.Write{At: 1, Data: "w"})
	for _, c := range []struct {
		at   int
		data string
	}{{0, ""}, {0, "x"}, {1, "x"}, {2, "some bytes"}, {2, strings.Repeat("x", 31)}, {2, strings.Repeat("x", 32)}, {0, "\x00\xff"}} {
		got, e := disk.Put(d, c.at, c.data)
		expect(t, "Put", got, e, with(d, api.Write{At: c.at, Data: c.data}), api.OK)
	}
	for _, c := range []struct {
		at   int
		data string
		e    api.Errno
	}{
		{-1, "", api.ErrArg}, {3, "", api.ErrArg}, {math.MinInt, "x", api.ErrArg}, {math.MaxInt, "x", api.ErrArg},
		{0, strings.Repeat("x", 33), api.ErrSize}, {2, strings.Repeat("\x00", 33), api.ErrSize}, {1, strings.Repeat("x", 5000), api.ErrSize},
		{3, strings.Repeat("x", 33), api.ErrArg}, {-1, strings.Repeat("x", 33), api.ErrArg},
	} {
		got, e := disk.Put(d, c.at, c.data)
		expect(t, "Put", got, e, d, c.e)
	}
}

// P1.2: what is read is the last write of that sector, else the sector.
func TestGet(t *testing.T) {
	d := with(of("a", "b", "c"), api.Write{At: 1, Data: "first"}, api.Write{At: 2, Data: "other"}, api.Write{At: 1, Data: "last"}, api.Write{At: 2, Data: ""})
	for at, want := range []string{"a", "last", ""} {
		if got, e := disk.Get(d, at); e != api.OK || got != full(want) {
			t.Errorf("Get(%d): %q, %d", at, got, e)
		}
	}
	if got, e := disk.Get(of("a", "b"), 1); e != api.OK || got != full("b") {
		t.Errorf("Get without a cache: %q, %d", got, e)
	}
	for _, at := range []int{-1, 3, 4, math.MinInt, math.MaxInt} {
		if got, e := disk.Get(d, at); e != api.ErrArg || got != "" {
			t.Errorf("Get(%d): %q, %d", at, got, e)
		}
	}
}

// P1.3: all writes are done, in order, and the cache is gone.
func TestFlush(t *testing.T) {
	d := with(of("a", "b", "c"), api.Write{At: 1, Data: "first"}, api.Write{At: 0, Data: "x"}, api.Write{At: 1, Data: "last"})
	got, e := disk.Flush(d)
	expect(t, "Flush", got, e, of("x", "last", "c"), api.OK)
	again, e := disk.Flush(got)
	expect(t, "Flush again", again, e, got, api.OK)
}

// P1.3: of the writes just those are done that keep tells, in order; where it tells nothing, none.
func TestCrash(t *testing.T) {
	d := with(of("a", "b"), api.Write{At: 1, Data: "first"}, api.Write{At: 0, Data: "x"}, api.Write{At: 1, Data: "last"})
	for _, c := range []struct {
		keep []bool
		want api.Disk
	}{
		{nil, of("a", "b")},
		{[]bool{false, false, false}, of("a", "b")},
		{[]bool{true}, of("a", "first")},
		{[]bool{false, true}, of("x", "b")},
		{[]bool{true, true}, of("x", "first")},
		{[]bool{false, false, true}, of("a", "last")},
		{[]bool{true, false, true}, of("a", "last")},
		{[]bool{true, true, true}, of("x", "last")},
		{[]bool{true, true, true, true, false}, of("x", "last")},
		{[]bool{false, false, false, true, true}, of("a", "b")},
	} {
		got, e := disk.Crash(d, c.keep)
		expect(t, "Crash", got, e, c.want, api.OK)
	}
	got, e := disk.Crash(of("a"), []bool{true})
	expect(t, "Crash without a cache", got, e, of("a"), api.OK)
}

// P1.4: the first n acts are done, one behind the other.
func TestRun(t *testing.T) {
	d := with(of("a", "b"), api.Write{At: 0, Data: "w"})
	w, x, y := api.Write{At: 0, Data: "w"}, api.Write{At: 1, Data: "x"}, api.Write{At: 1, Data: "y"}
	l := []api.Act{{At: 1, Data: "x"}, {At: 1, Data: "y"}, {Flush: true}, {At: 0, Data: "z"}}
	z := api.Write{At: 0, Data: "z"}
	for n, want := range map[int]api.Disk{
		math.MinInt: d, -1: d, 0: d,
		1: with(of("a", "b"), w, x),
		2: with(of("a", "b"), w, x, y),
		3: of("w", "y"),
		4: with(of("w", "y"), z),
		5: with(of("w", "y"), z), math.MaxInt: with(of("w", "y"), z),
	} {
		got, e := disk.Run(d, l, n)
		expect(t, "Run", got, e, want, api.OK)
	}
	got, e := disk.Run(d, nil, 9)
	expect(t, "Run of none", got, e, d, api.OK)
	// A flush looks at no place and no data.
	got, e = disk.Run(d, []api.Act{{Flush: true, At: 99, Data: strings.Repeat("x", 99)}}, 1)
	expect(t, "Run of a flush", got, e, of("w", "b"), api.OK)
}

// P1.4: with the first act that tells an error the disk is as it was; acts behind the first n are not looked at.
func TestRunFails(t *testing.T) {
	d := with(of("a", "b"), api.Write{At: 0, Data: "w"})
	place, size := api.Act{At: 2, Data: "x"}, api.Act{At: 1, Data: strings.Repeat("x", 33)}
	good, flush := api.Act{At: 1, Data: "x"}, api.Act{Flush: true}
	for i, c := range []struct {
		l []api.Act
		n int
		e api.Errno
	}{
		{[]api.Act{place}, 1, api.ErrArg},
		{[]api.Act{size}, 1, api.ErrSize},
		{[]api.Act{good, flush, place, size}, 4, api.ErrArg},
		{[]api.Act{good, flush, good, size, place}, 9, api.ErrSize},
		{[]api.Act{flush, {At: -1}}, 2, api.ErrArg},
		{[]api.Act{{At: 2, Data: strings.Repeat("x", 33)}}, 1, api.ErrArg},
	} {
		got, e := disk.Run(d, c.l, c.n)
		if e != c.e || !same(got, d) {
			t.Errorf("case %d: %v, %d", i, got, e)
		}
	}
	got, e := disk.Run(d, []api.Act{good, place}, 1)
	expect(t, "Run of the good one", got, e, with(d, api.Write{At: 1, Data: "x"}), api.OK)
}

// P1.2 to P1.4: of a disk that may not be there is that disk, and ErrArg, whatever else is asked.
func TestWrongDisks(t *testing.T) {
	for name, d := range wrong() {
		was := deep(d)
		for _, at := range []int{-1, 0, 1, 2} {
			got, e := disk.Put(d, at, "x")
			expect(t, name+": Put", got, e, was, api.ErrArg)
			got, e = disk.Put(d, at, strings.Repeat("x", 33))
			expect(t, name+": Put of too much", got, e, was, api.ErrArg)
			if s, e := disk.Get(d, at); s != "" || e != api.ErrArg {
				t.Errorf("%s: Get: %q, %d", name, s, e)
			}
		}
		got, e := disk.Flush(d)
		expect(t, name+": Flush", got, e, was, api.ErrArg)
		for _, keep := range [][]bool{nil, {true}, {true, true}} {
			got, e = disk.Crash(d, keep)
			expect(t, name+": Crash", got, e, was, api.ErrArg)
		}
		for _, l := range [][]api.Act{nil, {{Flush: true}}, {{Data: "x"}}, {{At: 0, Data: strings.Repeat("x", 33)}}} {
			for _, n := range []int{-1, 0, 1} {
				got, e = disk.Run(d, l, n)
				expect(t, name+": Run", got, e, was, api.ErrArg)
			}
		}
		if !same(d, was) || !disk.Same(d, was) {
			t.Errorf("%s: was changed", name)
		}
	}
}

// P1.5: of all that is written on three sectors, and whatever is kept, each write is done, or not; what was flushed stays.
func TestEachCrash(t *testing.T) {
	var first, acts []api.Act
	for i := range 4 {
		first = append(first, api.Act{At: i % 3, Data: "flushed " + string(rune('a'+i))})
		acts = append(acts, api.Act{At: i * i % 3, Data: "written " + string(rune('a'+i))})
	}
	d, _ := disk.New(3)
	d, _ = disk.Run(d, append(first, api.Act{Flush: true}), 5)
	for n := range len(acts) + 1 {
		cached, e := disk.Run(d, acts, n)
		if e != api.OK {
			t.Fatalf("Run: %d", e)
		}
		for mask := range 1 << len(acts) {
			want := slices.Clone(d.Sectors)
			var keep []bool
			for i := range acts {
				keep = append(keep, mask>>i&1 == 1)
				if keep[i] && i < n {
					want[acts[i].At] = full(acts[i].Data)
				}
			}
			got, e := disk.Crash(cached, keep)
			expect(t, "Crash", got, e, api.Disk{Sectors: want}, api.OK)
		}
	}
}

// P1.5: long runs on few sectors are what a plain model of them is.
func TestAgainstModel(t *testing.T) {
	r := rand.New(rand.NewSource(1))
	for range 300 {
		n := 1 + r.Intn(5)
		d, _ := disk.New(n)
		kept, seen := slices.Clone(d.Sectors), slices.Clone(d.Sectors)
		for range 40 {
			switch r.Intn(6) {
			case 0:
				d, _ = disk.Flush(d)
				kept = slices.Clone(seen)
			case 1:
				d, _ = disk.Crash(d, nil)
				seen = slices.Clone(kept)
			default:
				at, data := r.Intn(n), strings.Repeat(string(rune('a'+r.Intn(26))), r.Intn(33))
				d, _ = disk.Put(d, at, data)
				seen[at] = full(data)
			}
			for at := range n {
				if s, e := disk.Get(d, at); e != api.OK || s != seen[at] {
					t.Fatalf("Get(%d): %q, %d; want %q", at, s, e, seen[at])
				}
			}
			if !slices.Equal(d.Sectors, kept) {
				t.Fatalf("sectors are %q; want %q", d.Sectors, kept)
			}
		}
	}
}

// R5: what is handed in is not changed, nor what was told before, even where a list has room behind its end.
func TestNothingIsChanged(t *testing.T) {
	d := with(of("a", "b"), api.Write{At: 0, Data: "w"})
	d.Cache = append(make([]api.Write, 0, 8), d.Cache...)
	d.Sectors = append(make([]string, 0, 8), d.Sectors...)
	was := deep(d)
	x, _ := disk.Put(d, 1, "x")
	y, _ := disk.Put(d, 1, "y")
	run, _ := disk.Run(d, []api.Act{{At: 0, Data: "r"}, {Flush: true}, {At: 1, Data: "s"}}, 3)
	expect(t, "the first Put", x, api.OK, with(was, api.Write{At: 1, Data: "x"}), api.OK)
	expect(t, "the second Put", y, api.OK, with(was, api.Write{At: 1, Data: "y"}), api.OK)
	disk.Flush(x)
	disk.Crash(y, []bool{true, true})
	disk.Flush(run)
	disk.Put(run, 0, "more")
	expect(t, "a Put behind a Flush", x, api.OK, with(was, api.Write{At: 1, Data: "x"}), api.OK)
	expect(t, "a Put behind a Crash", y, api.OK, with(was, api.Write{At: 1, Data: "y"}), api.OK)
	expect(t, "a Run", run, api.OK, with(of("r", "b"), api.Write{At: 1, Data: "s"}), api.OK)
	disk.Run(d, []api.Act{{At: 0, Data: "r"}, {Flush: true}, {At: 9}}, 3)
	expect(t, "what was handed in", d, api.OK, was, api.OK)
	if room := d.Cache[:cap(d.Cache)]; slices.ContainsFunc(room[1:], func(w api.Write) bool { return w != api.Write{} }) {
		t.Errorf("what stands behind the cache was changed: %v", room)
	}
	l := []api.Act{{At: 1, Data: "x"}}
	keep := []bool{false}
	disk.Run(d, l, 1)
	disk.Crash(d, keep)
	if l[0] != (api.Act{At: 1, Data: "x"}) || keep[0] {
		t.Error("acts or keep were changed")
	}
}
