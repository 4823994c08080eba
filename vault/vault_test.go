package vault_test

import (
	"encoding/binary"
	"hash/adler32"
	"maps"
	"math"
	"math/rand"
	"slices"
	"strconv"
	"strings"
	"testing"

	"armada/api"
	"armada/vault"
)

const (
	begin = 1
	tx    = 2
)

// full is s, filled with bytes 0 up to a sector.
func full(s string) string {
	return s + strings.Repeat("\x00", 32-len(s))
}

// head is the sector of the head of a payload, by chapter 3.
func head(kind byte, gen, seq int, payload string) string {
	b := []byte{'H', kind}
	for _, n := range []int{gen, seq, len(payload), int(adler32.Checksum([]byte(payload)))} {
		b = binary.BigEndian.AppendUint32(b, uint32(n))
	}
	return full(string(b))
}

// data are the sectors of a payload.
func data(payload string) []string {
	var l []string
	for len(payload) > 31 {
		l = append(l, "D"+payload[:31])
		payload = payload[31:]
	}
	if payload != "" {
		l = append(l, full("D"+payload))
	}
	return l
}

// size tells how many sectors a record of that payload has.
func size(payload string) int { return 1 + len(data(payload)) }

// laid are the sectors of a log of that generation and these items.
func laid(gen int, items ...string) []string {
	l := []string{head(begin, gen, 0, "")}
	for i, s := range items {
		l = append(append(l, head(tx, gen, i, s)), data(s)...)
	}
	return l
}

// item are the bytes of ops, by chapter 5.
func item(ops ...api.Op) string {
	var b []byte
	for _, op := range ops {
		if op.Gone {
			b = append(append(b, 1, byte(len(op.Path))), op.Path...)
			continue
		}
		b = append(append(b, 0, byte(len(op.Path))), op.Path...)
		b = append(append(b, byte(len(op.Data)>>8), byte(len(op.Data))), op.Data...)
	}
	return string(b)
}

func put(path, data string) api.Op { return api.Op{Path: path, Data: data} }
func gone(path string) api.Op      { return api.Op{Gone: true, Path: path} }

// empty is a disk of n sectors 0.
func empty(n int) api.Disk {
	return api.Disk{Sectors: slices.Repeat([]string{full("")}, n)}
}

// on is a disk of n sectors, whose halves begin with these.
func on(n int, first, second []string) api.Disk {
	d := empty(n)
	copy(d.Sectors[:n/2], first)
	copy(d.Sectors[n/2:], second)
	return d
}

func deep(d api.Disk) api.Disk {
	return api.Disk{Sectors: slices.Clone(d.Sectors), Cache: slices.Clone(d.Cache)}
}

func same(a, b api.Disk) bool {
	return slices.Equal(a.Sectors, b.Sectors) && slices.Equal(a.Cache, b.Cache)
}

func equal(a, b vault.Vault) bool {
	return a.Half == b.Half && a.Gen == b.Gen && a.Many == b.Many && a.Next == b.Next && slices.Equal(a.Files, b.Files)
}

// cached is d, with writes of those sectors more that are not flushed.
func cached(d api.Disk, at int, sectors ...string) api.Disk {
	out := deep(d)
	for i, s := range sectors {
		out.Cache = append(out.Cache, api.Write{At: at + i, Data: s})
	}
	return out
}

// done is d, with which these acts are done, by chapter 1.
func done(d api.Disk, acts []api.Act) api.Disk {
	out := deep(d)
	for _, a := range acts {
		if !a.Flush {
			out.Cache = append(out.Cache, api.Write{At: a.At, Data: full(a.Data)})
			continue
		}
		for _, w := range out.Cache {
			out.Sectors[w.At] = w.Data
		}
		out.Cache = nil
	}
	return out
}

// crashed is d, of which just those writes are kept whose bit is set.
func crashed(d api.Disk, keep uint64) api.Disk {
	out := api.Disk{Sectors: slices.Clone(d.Sectors)}
	for i, w := range d.Cache {
		if keep>>i&1 == 1 {
			out.Sectors[w.At] = w.Data
		}
	}
	return out
}

// added are the acts that lay a record at a place.
func added(at, gen, seq int, payload string) []api.Act {
	var l []api.Act
	for i, s := range data(payload) {
		l = append(l, api.Act{At: at + 1 + i, Data: s})
	}
	return append(l, api.Act{Flush: true}, api.Act{At: at, Data: head(tx, gen, seq, payload)}, api.Act{Flush: true})
}

// begun are the acts that lay a log without items at a place.
func begun(at, gen int) []api.Act {
	return []api.Act{{At: at, Data: head(begin, gen, 0, "")}, {Flush: true}}
}

// mounts holds what Mount and Free tell against what is wanted.
func mounts(t *testing.T, what string, d api.Disk, want vault.Vault, wantErr api.Errno) {
	t.Helper()
	was := deep(d)
	got, e := vault.Mount(d)
	if e != wantErr || !equal(got, want) {
		t.Errorf("%s: Mount: %v, %d; want %v, %d", what, got, e, want, wantErr)
	}
	end := len(d.Sectors)
	if want.Half == 0 {
		end /= 2
	}
	free := end - want.Next
	if wantErr != api.OK {
		free = 0
	}
	if n := vault.Free(d); n != free {
		t.Errorf("%s: Free: %d; want %d", what, n, free)
	}
	if !same(d, was) {
		t.Errorf("%s: the disk was changed", what)
	}
}

// shown are acts, in short.
func shown(acts []api.Act) string {
	s := ""
	for _, a := range acts {
		if a.Flush {
			s += " flush"
			continue
		}
		s += " " + strconv.Itoa(a.At) + strconv.Quote(strings.TrimRight(a.Data, "\x00"))
	}
	return s[:min(len(s), 300)]
}

// commits holds what Commit tells against what is wanted.
func commits(t *testing.T, what string, d api.Disk, ops []api.Op, want []api.Act, wantErr api.Errno) {
	t.Helper()
	in := deep(d)
	in.Sectors = append(in.Sectors, "mark", "mark")[:len(d.Sectors)]
	in.Cache = append(in.Cache, api.Write{Data: "mark"}, api.Write{Data: "mark"})[:len(d.Cache)]
	l := append(slices.Clone(ops), put("mark", ""))
	got, e := vault.Commit(in, l[:len(ops)])
	if e != wantErr || !slices.Equal(got, want) {
		t.Errorf("%s: Commit: %s, %d; want %s, %d", what, shown(got), e, shown(want), wantErr)
	}
	if !same(in, d) || in.Sectors[:len(d.Sectors)+1][len(d.Sectors)] != "mark" || in.Cache[:len(d.Cache)+1][len(d.Cache)].Data != "mark" || !slices.Equal(l[:len(ops)], ops) || l[len(ops)].Path != "mark" {
		t.Errorf("%s: what was handed in was changed", what)
	}
}

// wrongDisks are disks that may not be, or are too small, which have a log nevertheless.
func wrongDisks() []api.Disk {
	log := laid(1, "")
	good := on(8, log, nil)
	short, wide := deep(good), deep(good)
	short.Sectors[7] = ""
	wide.Sectors[6] += "\x00"
	return []api.Disk{
		{}, {Sectors: []string{}}, on(7, log, nil), on(6, log, log), on(4, log, nil), on(2, log, nil), on(1, nil, log), {Sectors: log}, short, wide, on(513, log, nil), on(600, log, log),
		cached(good, 8, full("")), cached(good, -1, full("")), cached(good, 7, "x"), cached(good, 7, full("")+"x"), cached(good, math.MinInt, full("")), cached(good, math.MaxInt, full("")),
	}
}

// P6.1: the head that begins the first half, and a flush.
func TestFormat(t *testing.T) {
	want := begun(0, 1)
	for n := range 600 {
		got, e := vault.Format(n)
		switch {
		case n < 8 || n > 512:
			if e != api.ErrArg || len(got) != 0 {
				t.Errorf("Format(%d): %v, %d", n, got, e)
			}
		case e != api.OK || !slices.Equal(got, want):
			t.Errorf("Format(%d): %v, %d; want %v", n, got, e, want)
		default:
			mounts(t, "formatted", done(empty(n), got), vault.Vault{Gen: 1, Next: 1}, api.OK)
		}
	}
	for _, n := range []int{-1, -8, -512, math.MinInt, math.MaxInt, 1 << 32, 1<<32 + 8} {
		if got, e := vault.Format(n); e != api.ErrArg || len(got) != 0 {
			t.Errorf("Format(%d): %v, %d", n, got, e)
		}
	}
}

// P6.2: disks that have no vault.
func TestMountWrong(t *testing.T) {
	for _, d := range wrongDisks() {
		mounts(t, "wrong disk", d, vault.Vault{}, api.ErrArg)
		commits(t, "wrong disk", d, nil, nil, api.ErrArg)
	}
	// A half has its log where it begins, and nowhere else.
	astray := empty(16)
	copy(astray.Sectors[1:], laid(1, ""))
	copy(astray.Sectors[9:], laid(1, ""))
	for _, d := range []api.Disk{empty(8), empty(512), astray, on(9, nil, append([]string{full("")}, laid(1)...)), on(8, []string{head(begin, 1, 1, ""), head(tx, 1, 0, "")}, []string{head(tx, 1, 0, "")}), cached(on(8, laid(1), nil), 0, full("x"))} {
		mounts(t, "none", d, vault.Vault{}, api.ErrNone)
		commits(t, "none", d, []api.Op{put("", "")}, nil, api.ErrNone)
	}
}

// P6.2: the half that counts is the one of the greater generation, or the first one of the same.
func TestMountHalf(t *testing.T) {
	first, second := item(put("first", "1")), item(put("second", "22"))
	one, two := []api.File{{Path: "first", Data: "1"}}, []api.File{{Path: "second", Data: "22"}}
	for _, n := range []int{8, 9, 10, 11, 100, 511, 512} {
		a := vault.Vault{Gen: 5, Many: 1, Next: 3, Files: one}
		b := vault.Vault{Half: 1, Gen: 5, Many: 1, Next: n/2 + 3, Files: two}
		for _, c := range []struct {
			what     string
			gen1     int
			gen2     int
			none1    bool
			none2    bool
			want     vault.Vault
			atSector int
		}{
			{what: "only the first", gen1: 5, none2: true, want: a},
			{what: "only the second", none1: true, gen2: 5, want: b},
			{what: "the first is greater", gen1: 5, gen2: 4, want: a},
			{what: "the second is greater", gen1: 4, gen2: 5, want: b},
			{what: "the second is much greater", gen1: 0, gen2: 5, want: b},
			{what: "the same", gen1: 5, gen2: 5, want: a},
		} {
			l1, l2 := laid(c.gen1, first), laid(c.gen2, second)
			if c.none1 {
				l1 = nil
			}
			if c.none2 {
				l2 = nil
			}
			mounts(t, c.what, on(n, l1, l2), c.want, api.OK)
			// What is written, and not flushed, is there too.
			mounts(t, c.what+", in the cache", cached(cached(empty(n), 0, l1...), n/2, l2...), c.want, api.OK)
		}
		mounts(t, "gen 0", on(n, laid(0, first), nil), vault.Vault{Many: 1, Next: 3, Files: one}, api.OK)
		mounts(t, "gen 0 twice", on(n, laid(0, first), laid(0, second)), vault.Vault{Many: 1, Next: 3, Files: one}, api.OK)
		mounts(t, "the greatest gen", on(n, laid(1<<30-1, first), laid(1<<30, second)), vault.Vault{Half: 1, Gen: 1 << 30, Many: 1, Next: n/2 + 3, Files: two}, api.OK)
		mounts(t, "no gen", on(n, laid(5, first), laid(1<<30+1, second)), a, api.OK)
	}
	// An odd disk has one sector more in its second half.
	mounts(t, "the end of the first half", on(9, laid(1, "", "", ""), nil), vault.Vault{Gen: 1, Many: 3, Next: 4}, api.OK)
	mounts(t, "the end of the second half", on(9, nil, laid(1, "", "", "", "")), vault.Vault{Half: 1, Gen: 1, Many: 4, Next: 9}, api.OK)
	over := empty(9)
	copy(over.Sectors, laid(1, "", "", "", "", ""))
	mounts(t, "records beyond the first half", over, vault.Vault{Gen: 1, Many: 3, Next: 4}, api.OK)
}

// P6.2: the files are what comes of none by all items, one behind the other.
func TestMountFiles(t *testing.T) {
	long := strings.Repeat("0123456789", 300)
	items := []string{
		item(put("b", "1"), put("a", "2")), "", item(gone("b")), item(put("a", "3"), put("c/d", long)), item(put("b", ""), gone("b"), put("b", "4")),
	}
	states := [][]api.File{
		nil, {{Path: "a", Data: "2"}, {Path: "b", Data: "1"}}, {{Path: "a", Data: "2"}, {Path: "b", Data: "1"}}, {{Path: "a", Data: "2"}},
		{{Path: "a", Data: "3"}, {Path: "c/d", Data: long}}, {{Path: "a", Data: "3"}, {Path: "b", Data: "4"}, {Path: "c/d", Data: long}},
	}
	for many, want := range states {
		log := laid(7, items[:many]...)
		mounts(t, "files", on(300, log, laid(6, items...)), vault.Vault{Gen: 7, Many: many, Next: len(log), Files: want}, api.OK)
		mounts(t, "files in the second half", on(301, laid(6, items...), log), vault.Vault{Half: 1, Gen: 7, Many: many, Next: 150 + len(log), Files: want}, api.OK)
	}
}

// P6.2: an item that is none, or can't be applied.
func TestMountSum(t *testing.T) {
	var forty []api.Op
	for i := range 41 {
		forty = append(forty, put("f"+string(rune('a'+i/26))+string(rune('a'+i%26)), ""))
	}
	good := item(put("a", "1"))
	bad := [][]string{
		{"x"}, {"\x00"}, {"\x02\x01a"}, {item(put("", ""))}, {item(put("a/", ""))}, {item(gone("a"))}, {item(gone("../a"))}, {good + "\x00"}, {item(forty...)},
		{good, "x"}, {good, item(gone("a"), gone("a"))}, {good, item(gone("b"))}, {good, item(forty[:40]...)}, {"x", good}, {item(gone("a")), good}, {good, "\x01", good}, {good, item(gone("b")), good, "x"},
	}
	for _, items := range bad {
		mounts(t, "a wrong item", on(512, laid(3, items...), nil), vault.Vault{}, api.ErrSum)
		mounts(t, "a wrong item, and another half", on(512, laid(3, items...), laid(2, good)), vault.Vault{}, api.ErrSum)
		mounts(t, "a wrong item in the second half", on(511, laid(2, good), laid(3, items...)), vault.Vault{}, api.ErrSum)
		commits(t, "a wrong item", on(512, laid(3, items...), laid(2, good)), []api.Op{put("", "")}, nil, api.ErrSum)
		commits(t, "a wrong item", on(512, laid(3, items...), laid(2, good)), nil, nil, api.ErrSum)
		// In the half that does not count it is nobody's.
		want := vault.Vault{Gen: 4, Many: 1, Next: 3, Files: []api.File{{Path: "a", Data: "1"}}}
		mounts(t, "a wrong item that does not count", on(512, laid(4, good), laid(3, items...)), want, api.OK)
	}
	mounts(t, "40 files", on(512, laid(3, item(forty[:40]...)), nil), vault.Vault{Gen: 3, Many: 1, Next: 1 + size(item(forty[:40]...)), Files: filesOf(forty[:40])}, api.OK)
}

// filesOf are the files that ops make that are in the order of their paths.
func filesOf(ops []api.Op) []api.File {
	var l []api.File
	for _, op := range ops {
		l = append(l, api.File{Path: op.Path, Data: op.Data})
	}
	return l
}

// P6.3: one record more in the half that counts.
func TestCommit(t *testing.T) {
	a, long := item(put("a", "1")), strings.Repeat("x", 900)
	for _, ops := range [][]api.Op{
		nil, {put("b", "2")}, {gone("a")}, {put("a", "2")}, {put("b", "2"), gone("a"), put("c", long)}, {gone("a"), put("a", "1")}, {put("a", "1")}, {put("b", ""), gone("b")},
	} {
		commits(t, "first half", on(100, laid(3, a), nil), ops, added(3, 3, 1, item(ops...)), api.OK)
		commits(t, "first half, of two", on(100, laid(3, a), laid(3, "x")), ops, added(3, 3, 1, item(ops...)), api.OK)
		commits(t, "second half", on(101, laid(3, "x"), laid(9, a, a, a)), ops, added(57, 9, 3, item(ops...)), api.OK)
		commits(t, "in the cache", cached(empty(100), 50, laid(1<<30, a)...), ops, added(53, 1<<30, 1, item(ops...)), api.OK)
	}
	// The record may end where the half ends.
	for _, n := range []int{8, 9} {
		fits, passes := []api.Op{put("b", strings.Repeat("x", 57))}, []api.Op{put("b", strings.Repeat("x", 58))}
		commits(t, "fills the first half", on(n, laid(1), nil), fits, added(1, 1, 0, item(fits...)), api.OK)
		if n == 8 {
			commits(t, "passes the first half", on(n, laid(1), nil), passes, nil, api.ErrFull)
			continue
		}
		commits(t, "passes the first half", on(n, laid(1), nil), passes, append(added(5, 2, 0, item(passes...)), begun(4, 2)...), api.OK)
		most := []api.Op{put("b", strings.Repeat("x", 88))}
		commits(t, "fills the second half", on(n, nil, laid(1)), most, added(5, 1, 0, item(most...)), api.OK)
		commits(t, "passes the second half", on(n, nil, laid(1)), []api.Op{put("b", strings.Repeat("x", 89))}, nil, api.ErrFull)
	}
}

// P6.3: the errors of what reads the disk, of Apply and of Encode, in that order.
func TestCommitWrong(t *testing.T) {
	long := strings.Repeat("x", 4097)
	var forty []api.Op
	for i := range 40 {
		forty = append(forty, put("f"+string(rune('a'+i/26))+string(rune('a'+i%26)), ""))
	}
	d := on(512, laid(3, item(put("a", "1"))), nil)
	many := on(512, laid(3, item(forty...)), nil)
	for _, c := range []struct {
		what string
		d    api.Disk
		ops  []api.Op
		want api.Errno
	}{
		{"Apply: path", d, []api.Op{put("a/", "")}, api.ErrPath},
		{"Apply: none", d, []api.Op{gone("b")}, api.ErrNone},
		{"Apply: gone twice", d, []api.Op{gone("a"), gone("a")}, api.ErrNone},
		{"Apply: size", d, []api.Op{put("a", long)}, api.ErrSize},
		{"Apply: full", many, []api.Op{put("a", "")}, api.ErrFull},
		{"Apply ahead of Encode", d, []api.Op{{Gone: true, Path: "a", Data: "x"}, gone("b")}, api.ErrNone},
		{"Apply ahead of Encode: full", many, []api.Op{{Gone: true, Path: "faa", Data: "x"}, put("a", ""), put("b", "")}, api.ErrFull},
		{"Encode: gone with data", d, []api.Op{{Gone: true, Path: "a", Data: "x"}}, api.ErrArg},
		{"Encode: size in all", d, []api.Op{put("a", long[:4092])}, api.ErrSize},
		{"Encode: size of many", d, []api.Op{put("a", long[:2500]), put("a", long[:2500]), gone("a")}, api.ErrSize},
		{"Encode ahead of room", on(8, laid(3, item(put("a", "1"))), nil), []api.Op{put("a", long[:4092])}, api.ErrSize},
		{"Encode ahead of the greatest gen", on(8, laid(1<<30, item(put("a", "1"))), nil), []api.Op{{Gone: true, Path: "a", Data: "x"}}, api.ErrArg},
		{"Apply ahead of room", on(8, laid(1<<30, item(put("a", "1"))), nil), []api.Op{gone("b")}, api.ErrNone},
	} {
		commits(t, c.what, c.d, c.ops, nil, c.want)
	}
	most := []api.Op{put("a", long[:4091])}
	commits(t, "4096 bytes", d, most, added(3, 3, 1, item(most...)), api.OK)
}

// P6.3: a half that is full: all files are laid into the other one, of the next generation.
func TestCommitMoves(t *testing.T) {
	x := strings.Repeat("x", 40)
	ab := item(put("b", x), put("a", "1"))
	filled := laid(5, ab, "", "")
	all := []api.Op{put("a", "1"), put("b", x), put("c", "2")}
	moved := func(at, gen int, ops ...api.Op) []api.Act {
		return append(added(at+1, gen, 0, item(ops...)), begun(at, gen)...)
	}
	commits(t, "to the second half", on(12, filled, nil), all[2:], moved(6, 6, all...), api.OK)
	commits(t, "to the first half", on(12, laid(4, "x"), filled), all[2:], moved(0, 6, all...), api.OK)
	commits(t, "in the cache", cached(cached(empty(12), 6, filled...), 0, laid(4, "x")...), all[2:], moved(0, 6, all...), api.OK)
	commits(t, "nothing is done", on(12, filled, nil), nil, moved(6, 6, all[:2]...), api.OK)
	commits(t, "one gone", on(12, filled, nil), []api.Op{gone("b")}, moved(6, 6, all[0]), api.OK)
	commits(t, "all gone", on(12, filled, nil), []api.Op{gone("b"), gone("a")}, moved(6, 6), api.OK)
	commits(t, "other bytes", on(12, filled, nil), []api.Op{put("b", "2")}, moved(6, 6, all[0], put("b", "2")), api.OK)
	commits(t, "one sector too few", on(14, filled, nil), []api.Op{gone("b")}, moved(7, 6, all[0]), api.OK)
	commits(t, "as many sectors as are needed", on(16, filled, nil), []api.Op{gone("b")}, added(6, 5, 3, item(gone("b"))), api.OK)
	commits(t, "gen 0", on(12, laid(0, ab, "", ""), nil), nil, moved(6, 1, all[:2]...), api.OK)
	commits(t, "the greatest gen but one", on(12, laid(1<<30-1, ab, "", ""), nil), nil, moved(6, 1<<30, all[:2]...), api.OK)
	commits(t, "the greatest gen", on(12, laid(1<<30, ab, "", ""), nil), nil, nil, api.ErrOver)
	// The first half of an odd disk has one sector less.
	fits, passes := put("c", strings.Repeat("y", 4*31-5)), put("c", strings.Repeat("y", 4*31-4))
	clear := []api.Op{gone("a"), gone("b")}
	commits(t, "fills the first half", on(13, nil, laid(5, ab, "", "", "")), append(clear, fits), moved(0, 6, fits), api.OK)
	commits(t, "passes the first half", on(13, nil, laid(5, ab, "", "", "")), append(clear, passes), nil, api.ErrFull)
	commits(t, "the second half has room", on(13, laid(5, ab, ""), nil), append(clear, passes), moved(6, 6, passes), api.OK)
}

// P6.3: the errors of a move, and which of them holds first.
func TestCommitMovesWrong(t *testing.T) {
	y := strings.Repeat("y", 3000)
	big := func(gen int) []string { return laid(gen, item(put("a", y))) }
	commits(t, "size of all", on(380, big(5), nil), []api.Op{put("b", y)}, nil, api.ErrSize)
	commits(t, "size of all, ahead of the greatest gen", on(380, big(1<<30), nil), []api.Op{put("b", y)}, nil, api.ErrSize)
	commits(t, "the greatest gen, ahead of room", on(8, laid(1<<30), nil), []api.Op{put("b", y)}, nil, api.ErrOver)
	commits(t, "room", on(8, laid(5), nil), []api.Op{put("b", y)}, nil, api.ErrFull)
	commits(t, "room in the first half", on(8, nil, laid(5)), []api.Op{put("b", y)}, nil, api.ErrFull)
	// 4096 bytes of all files are the most that is laid, one more is too much.
	fits, passes := put("b", strings.Repeat("z", 4096-3005-5)), put("b", strings.Repeat("z", 4096-3005-4))
	commits(t, "4096 bytes of all", on(270, big(5), nil), []api.Op{fits}, append(added(136, 6, 0, item(put("a", y), fits)), begun(135, 6)...), api.OK)
	commits(t, "4097 bytes of all", on(270, big(5), nil), []api.Op{passes}, nil, api.ErrSize)
}

// P6.4: how many sectors are left; mounts holds it against each disk of these tests.
func TestFree(t *testing.T) {
	for _, c := range []struct {
		d    api.Disk
		want int
	}{
		{on(8, laid(1), nil), 3}, {on(9, laid(1), nil), 3}, {on(9, nil, laid(1)), 4}, {on(512, laid(1), nil), 255}, {on(511, nil, laid(1)), 255}, {on(8, laid(1, "", "", ""), nil), 0},
		{on(100, laid(1, item(put("a", "1"))), laid(2, "")), 48}, {on(100, laid(2, item(put("a", "1"))), laid(2, "")), 47}, {cached(on(8, laid(1), nil), 1, head(tx, 1, 0, "")), 2},
		{on(8, laid(1, "\x00"), nil), 0}, {empty(8), 0}, {on(7, laid(1), nil), 0}, {api.Disk{}, 0},
	} {
		if got := vault.Free(c.d); got != c.want {
			t.Errorf("Free: %d; want %d", got, c.want)
		}
	}
}

// filesOn are the files on d, which must be a vault.
func filesOn(t *testing.T, d api.Disk) []api.File {
	t.Helper()
	v, e := vault.Mount(d)
	if e != api.OK {
		t.Fatalf("Mount: %d", e)
	}
	return v.Files
}

// someOps are some ops, and the files that come of the model by them.
func someOps(r *rand.Rand, model map[string]string, most int) ([]api.Op, []api.File) {
	var ops []api.Op
	for range r.Intn(4) {
		path := string(rune('a' + r.Intn(5)))
		if _, has := model[path]; has && r.Intn(3) == 0 {
			delete(model, path)
			ops = append(ops, gone(path))
			continue
		}
		model[path] = strings.Repeat(string(rune('0'+r.Intn(10))), r.Intn(most))
		ops = append(ops, put(path, model[path]))
	}
	var l []api.File
	for _, path := range slices.Sorted(maps.Keys(model)) {
		l = append(l, api.File{Path: path, Data: model[path]})
	}
	return ops, l
}

// modelOf is l as a map.
func modelOf(l []api.File) map[string]string {
	m := map[string]string{}
	for _, f := range l {
		m[f.Path] = f.Data
	}
	return m
}

// keeps are ways to keep that many writes: all ways, or some of many.
func keeps(r *rand.Rand, writes int) []uint64 {
	var l []uint64
	if writes <= 6 {
		for k := range uint64(1) << writes {
			l = append(l, k)
		}
		return l
	}
	for range 40 {
		l = append(l, r.Uint64())
	}
	return append(l, 0, math.MaxUint64)
}

// P6.5: wherever a commit is cut off, and whatever a crash keeps of it, the files are those ahead of it, or those behind it.
func TestCrashes(t *testing.T) {
	r := rand.New(rand.NewSource(65))
	moves, fulls := 0, 0
	for _, n := range []int{8, 9, 12, 17, 30, 64} {
		for range 12 {
			start, e := vault.Format(n)
			if e != api.OK {
				t.Fatalf("Format: %d", e)
			}
			d := done(empty(n), start)
			for range 25 {
				before := filesOn(t, d)
				ops, after := someOps(r, modelOf(before), 3*n)
				acts, e := vault.Commit(d, ops)
				if e != api.OK {
					fulls++
					if e != api.ErrFull || len(acts) != 0 {
						t.Fatalf("Commit: %v, %d", acts, e)
					}
					continue
				}
				if len(acts) > 2 && acts[len(acts)-2].At%(n/2) == 0 {
					moves++
				}
				crashEach(t, r, d, acts, before, after)
				d = onward(r, d, acts)
			}
		}
	}
	if moves == 0 || fulls == 0 {
		t.Fatalf("%d moves, %d times full", moves, fulls)
	}
}

// crashEach crashes d behind each number of acts, in each way.
func crashEach(t *testing.T, r *rand.Rand, d api.Disk, acts []api.Act, before, after []api.File) {
	t.Helper()
	for cut := range len(acts) + 1 {
		broken := done(d, acts[:cut])
		for _, keep := range keeps(r, len(broken.Cache)) {
			got := filesOn(t, crashed(broken, keep))
			if !slices.Equal(got, after) && (cut == len(acts) || !slices.Equal(got, before)) {
				t.Fatalf("%d of %d acts, kept %b: %v; ahead %v, behind %v", cut, len(acts), keep, got, before, after)
			}
		}
		got := filesOn(t, broken)
		if !slices.Equal(got, after) && !slices.Equal(got, before) {
			t.Fatalf("%d of %d acts, no crash: %v", cut, len(acts), got)
		}
	}
}

// onward is d as it may be when the next commit comes: all acts are done, or some of them, ahead of a crash.
func onward(r *rand.Rand, d api.Disk, acts []api.Act) api.Disk {
	if r.Intn(3) == 0 {
		return crashed(done(d, acts[:r.Intn(len(acts)+1)]), r.Uint64())
	}
	return done(d, acts)
}

// Whatever stands on a disk, each call ends, and tells the same again.
func TestAnyDisk(t *testing.T) {
	r := rand.New(rand.NewSource(9))
	for range 3000 {
		n := 6 + r.Intn(20)
		d := on(n, laid(r.Intn(3), item(put("a", "1")), item(put("b", "2"))), laid(r.Intn(3), item(put("c", "3"))))
		for range r.Intn(6) {
			at := r.Intn(n)
			b := []byte(d.Sectors[at])
			b[r.Intn(18)] = byte(r.Intn(4))
			d.Sectors[at] = string(b)
		}
		v, e := vault.Mount(d)
		again, e2 := vault.Mount(deep(d))
		if e != e2 || !equal(v, again) {
			t.Fatalf("%v, %d; and then %v, %d", v, e, again, e2)
		}
		if e != api.OK && (!equal(v, vault.Vault{}) || vault.Free(d) != 0) {
			t.Fatalf("%v, %d", v, e)
		}
		if acts, e3 := vault.Commit(d, nil); e != api.OK && (e3 != e || len(acts) != 0) {
			t.Fatalf("Commit: %v, %d; want %d", acts, e3, e)
		}
	}
}
