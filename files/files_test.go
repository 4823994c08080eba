package files_test

import (
	"maps"
	"math/rand"
	"slices"
	"strings"
	"testing"

	"armada/api"
	"armada/files"
)

var (
	long = strings.Repeat("0123456789abcdef", 256) // 4096 bytes
	sixt = strings.Repeat("abcde/", 9) + "abcdef"  // 60 bytes
)

// many are n files that may be.
func many(n int) []api.File {
	var l []api.File
	for i := range n {
		l = append(l, api.File{Path: name(i), Data: "data " + name(i)})
	}
	return l
}

// name is a path of a number, so that paths rise as the numbers do.
func name(i int) string {
	return "d" + string(rune('0'+i/10)) + "/f" + string(rune('0'+i%10))
}

// wrongPaths are no paths.
func wrongPaths() []string {
	l := []string{
		"", "/", "//", "/a", "a/", "a//b", "a/b/", "/a/b", ".", "..", "./a", "../a", "a/.", "a/..", "a/./b", "a/../b", "a b", "a\x00", "\x00", "a\n", "ä", "\xff", "a/\xc3\xa4", "a\\b", "a:b", "a@b", "~", "a+b", "*",
		sixt + "x", strings.Repeat("x", 61), strings.Repeat("x", 300), strings.Repeat("x", 256+5), strings.Repeat("a/", 30) + "a",
	}
	for c := range 256 {
		if !strings.Contains("abcdefghijklmnopqrstuvwxyzABCDEFGHIJKLMNOPQRSTUVWXYZ0123456789-_./", string([]byte{byte(c)})) {
			l = append(l, string([]byte{byte(c)}), string([]byte{'a', byte(c)}), string([]byte{'a', '/', byte(c), 'b'}))
		}
	}
	return l
}

// wrongLists are files that may not be.
func wrongLists() [][]api.File {
	l := [][]api.File{
		many(41), many(42), {{Path: "a", Data: long + "x"}}, {{Path: "a"}, {Path: "b", Data: long + "x"}},
		{{Path: "b"}, {Path: "a"}}, {{Path: "a"}, {Path: "a"}}, {{Path: "a"}, {Path: "b"}, {Path: "b"}}, {{Path: "a", Data: "1"}, {Path: "a", Data: "2"}},
		{{Path: "a/b"}, {Path: "a.b"}}, {{Path: "a/b"}, {Path: "a"}}, {{Path: "b"}, {Path: "B"}}, {{Path: "a"}, {Path: "_"}}, {{Path: "a/b"}, {Path: "a-"}}, {{Path: "a0"}, {Path: "a/0"}},
		{{Path: "a"}, {Path: "c"}, {Path: "b"}},
	}
	for _, s := range wrongPaths()[:34] {
		l = append(l, []api.File{{Path: s}})
	}
	return append(l, []api.File{{Path: "a"}, {Path: "b/"}}, []api.File{{Path: ""}, {Path: "b"}})
}

// roomy is l in a list with room behind it, and that list's whole.
func roomy[T any](l []T, mark T) ([]T, []T) {
	whole := append(slices.Clone(l), mark, mark, mark)
	return whole[:len(l)], whole
}

// P5.1: what is a path.
func TestPath(t *testing.T) {
	for _, s := range []string{
		"a", "z", "A", "Z", "0", "9", "-", "_", "...", ".a", "a.", "..a", "a..", "....", "a/b.go", "a/b/c", "-/-", "_/_", ".../...", "a/.b", "a/..b", "go.mod", ".intent", "ledger.txt", "0/0",
		sixt, strings.Repeat("x", 60), strings.Repeat("a/", 29) + "ab", "a/" + strings.Repeat(".", 58),
	} {
		if !files.Path(s) {
			t.Errorf("%q is none", s)
		}
	}
	for _, s := range wrongPaths() {
		if files.Path(s) {
			t.Errorf("%q is one", s)
		}
	}
}

// The chapter's words: which files may be.
func TestMay(t *testing.T) {
	for i, l := range [][]api.File{
		nil, {}, many(1), many(39), many(40), {{Path: "a"}}, {{Path: "a", Data: long}}, {{Path: "a", Data: "\x00\xff\n"}}, {{Path: sixt, Data: long}},
		{{Path: "-"}, {Path: "0"}, {Path: "9"}, {Path: "A"}, {Path: "Z"}, {Path: "_"}, {Path: "a"}, {Path: "a-"}, {Path: "a.b"}, {Path: "a/b"}, {Path: "a0"}, {Path: "aa"}, {Path: "z"}},
	} {
		if !files.May(l) {
			t.Errorf("%d may not be", i)
		}
	}
	for i, l := range wrongLists() {
		if files.May(l) {
			t.Errorf("%d may be: %v", i, l)
		}
	}
	most := many(40)
	for i := range most {
		most[i].Data = long
	}
	if !files.May(most) {
		t.Error("40 files of 4096 bytes may not be")
	}
}

// P5.1: the bytes of the first one of that path, whether the list may be or not.
func TestGet(t *testing.T) {
	l := []api.File{{Path: "a", Data: "1"}, {Path: "b"}, {Path: "c/d", Data: long}}
	odd := []api.File{{Path: "b", Data: "1"}, {Path: "a", Data: "2"}, {Path: "b", Data: "3"}, {Path: "", Data: "4"}, {Path: "/", Data: "5"}, {Path: "a", Data: "6"}, {Path: "0", Data: "7"}}
	for _, c := range []struct {
		l    []api.File
		path string
		want string
		is   bool
	}{
		{l, "a", "1", true}, {l, "b", "", true}, {l, "c/d", long, true}, {l, "c", "", false}, {l, "d", "", false}, {l, "", "", false}, {l, "c/", "", false}, {l, "aa", "", false}, {nil, "a", "", false}, {nil, "", "", false},
		{odd, "b", "1", true}, {odd, "a", "2", true}, {odd, "", "4", true}, {odd, "/", "5", true}, {odd, "0", "7", true}, {odd, "c", "", false},
		{many(41), name(40), "data " + name(40), true}, {many(41), name(41), "", false},
	} {
		if got, is := files.Get(c.l, c.path); got != c.want || is != c.is {
			t.Errorf("Get(%q): %q, %v", c.path, got, is)
		}
	}
}

// P5.1: the same files, in the same order.
func TestSame(t *testing.T) {
	l := []api.File{{Path: "a", Data: "1"}, {Path: "b", Data: "2"}}
	for _, c := range []struct {
		a, b []api.File
		want bool
	}{
		{nil, nil, true}, {nil, []api.File{}, true}, {l, slices.Clone(l), true}, {l, l[:1], false}, {l[:1], l, false}, {nil, l, false}, {l, nil, false}, {l, []api.File{l[1], l[0]}, false},
		{l, []api.File{l[0], {Path: "b", Data: "3"}}, false}, {l, []api.File{l[0], {Path: "c", Data: "2"}}, false}, {l, []api.File{{Path: "a"}, l[1]}, false}, {[]api.File{{}}, nil, false},
		{wrongLists()[5], wrongLists()[5], true}, {[]api.File{l[0], l[0]}, l[:1], false},
	} {
		if files.Same(c.a, c.b) != c.want {
			t.Errorf("Same(%v, %v) is not %v", c.a, c.b, c.want)
		}
	}
}

// applied holds what Apply tells against what is wanted, and that nothing handed in is changed.
func applied(t *testing.T, what string, l []api.File, ops []api.Op, want []api.File, wantErr api.Errno) {
	t.Helper()
	mark := api.File{Path: "mark", Data: "mark"}
	in, whole := roomy(l, mark)
	wasOps := slices.Clone(ops)
	got, e := files.Apply(in, ops)
	if e != wantErr || !slices.Equal(got, want) {
		t.Errorf("%s: %v, %d; want %v, %d", what, got, e, want, wantErr)
	}
	got = append(got, mark)
	for i := range got {
		got[i] = api.File{Path: "changed"}
	}
	if !slices.Equal(whole[:len(l)], l) || whole[len(l)] != mark || whole[len(l)+1] != mark || whole[len(l)+2] != mark || !slices.Equal(ops, wasOps) {
		t.Errorf("%s: what was handed in was changed", what)
	}
}

// P5.2: ops, one behind the other.
func TestApply(t *testing.T) {
	ab := []api.File{{Path: "a", Data: "1"}, {Path: "b", Data: "2"}}
	full := many(40)
	for _, c := range []struct {
		what string
		l    []api.File
		ops  []api.Op
		want []api.File
	}{
		{"nothing of nothing", nil, nil, nil},
		{"nothing", ab, nil, ab},
		{"the first file", nil, []api.Op{{Path: "a", Data: "1"}}, ab[:1]},
		{"ahead", ab[1:], []api.Op{{Path: "a", Data: "1"}}, ab},
		{"behind", ab[:1], []api.Op{{Path: "b", Data: "2"}}, ab},
		{"between", ab, []api.Op{{Path: "a/b", Data: "3"}}, []api.File{ab[0], {Path: "a/b", Data: "3"}, ab[1]}},
		{"byte by byte", []api.File{{Path: "a"}, {Path: "a/b"}}, []api.Op{{Path: "a-b"}, {Path: "a0"}, {Path: "B"}}, []api.File{{Path: "B"}, {Path: "a"}, {Path: "a-b"}, {Path: "a/b"}, {Path: "a0"}}},
		{"in place", ab, []api.Op{{Path: "a", Data: "3"}}, []api.File{{Path: "a", Data: "3"}, ab[1]}},
		{"to no bytes", ab, []api.Op{{Path: "a"}}, []api.File{{Path: "a"}, ab[1]}},
		{"gone", ab, []api.Op{{Gone: true, Path: "a"}}, ab[1:]},
		{"the last one gone", ab, []api.Op{{Gone: true, Path: "b"}}, ab[:1]},
		{"gone, and has bytes", ab, []api.Op{{Gone: true, Path: "a", Data: "x"}}, ab[1:]},
		{"all gone", ab, []api.Op{{Gone: true, Path: "b"}, {Gone: true, Path: "a"}}, nil},
		{"twice", ab, []api.Op{{Path: "a", Data: "3"}, {Path: "a", Data: "4"}}, []api.File{{Path: "a", Data: "4"}, ab[1]}},
		{"gone and there again", ab, []api.Op{{Gone: true, Path: "a"}, {Path: "a", Data: "9"}}, []api.File{{Path: "a", Data: "9"}, ab[1]}},
		{"there and gone again", ab, []api.Op{{Path: "c"}, {Gone: true, Path: "c"}}, ab},
		{"4096 bytes", nil, []api.Op{{Path: sixt, Data: long}}, []api.File{{Path: sixt, Data: long}}},
		{"the 40th", full[:39], []api.Op{{Path: name(39), Data: "data " + name(39)}}, full},
		{"one of 40", full, []api.Op{{Path: name(7), Data: "data " + name(7)}, {Path: name(39), Data: "data " + name(39)}}, full},
		{"40, one gone, one more", full, []api.Op{{Gone: true, Path: name(39)}, {Path: name(39), Data: "data " + name(39)}}, full},
		{"many ops", nil, slices.Repeat([]api.Op{{Path: "a", Data: long}, {Gone: true, Path: "a"}}, 500), nil},
	} {
		applied(t, c.what, c.l, c.ops, c.want, api.OK)
	}
}

// P5.2: the errors, and which of them holds first.
func TestApplyWrong(t *testing.T) {
	for _, l := range wrongLists() {
		for _, ops := range [][]api.Op{nil, {{Path: "x"}}, {{Path: ""}}, {{Gone: true, Path: "x"}}, {{Path: "a", Data: long + "x"}}} {
			applied(t, "wrong files", l, ops, nil, api.ErrArg)
		}
	}
	ab := []api.File{{Path: "a", Data: "1"}, {Path: "b", Data: "2"}}
	for _, s := range wrongPaths() {
		applied(t, "path", ab, []api.Op{{Path: s, Data: "1"}}, nil, api.ErrPath)
		applied(t, "path ahead of none", ab, []api.Op{{Gone: true, Path: s}}, nil, api.ErrPath)
	}
	for _, c := range []struct {
		what string
		l    []api.File
		ops  []api.Op
		want api.Errno
	}{
		{"path ahead of size", ab, []api.Op{{Path: "a/", Data: long + "x"}}, api.ErrPath},
		{"path ahead of full", many(40), []api.Op{{Path: "a/"}}, api.ErrPath},
		{"none", ab, []api.Op{{Gone: true, Path: "c"}}, api.ErrNone},
		{"none of nothing", nil, []api.Op{{Gone: true, Path: "a"}}, api.ErrNone},
		{"a directory is none", []api.File{{Path: "a/b"}}, []api.Op{{Gone: true, Path: "a"}}, api.ErrNone},
		{"none of 40", many(40), []api.Op{{Gone: true, Path: "x"}}, api.ErrNone},
		{"gone twice", ab, []api.Op{{Gone: true, Path: "a"}, {Gone: true, Path: "a"}}, api.ErrNone},
		{"size", ab, []api.Op{{Path: "c", Data: long + "x"}}, api.ErrSize},
		{"size in place", ab, []api.Op{{Path: "a", Data: long + "x"}}, api.ErrSize},
		{"size ahead of full", many(40), []api.Op{{Path: "x", Data: long + "x"}}, api.ErrSize},
		{"full", many(40), []api.Op{{Path: "x"}}, api.ErrFull},
		{"full ahead", many(40), []api.Op{{Path: "a"}}, api.ErrFull},
		{"full on the way", many(39), []api.Op{{Path: "x"}, {Path: "y"}, {Gone: true, Path: "x"}}, api.ErrFull},
		{"the first wrong one: path", ab, []api.Op{{Path: "c"}, {Path: ""}, {Path: "c", Data: long + "x"}}, api.ErrPath},
		{"the first wrong one: size", ab, []api.Op{{Path: "c"}, {Path: "c", Data: long + "x"}, {Path: ""}}, api.ErrSize},
		{"the first wrong one: none", ab, []api.Op{{Gone: true, Path: "c"}, {Path: ""}}, api.ErrNone},
		{"the first wrong one: full", many(40), []api.Op{{Path: "x"}, {Path: ""}}, api.ErrFull},
	} {
		applied(t, c.what, c.l, c.ops, nil, c.want)
	}
}

// P5.2: against files in a map.
func TestApplyMany(t *testing.T) {
	r := rand.New(rand.NewSource(5))
	for range 300 {
		model := map[string]string{}
		l := some(r, model)
		var ops []api.Op
		for range r.Intn(12) {
			op := api.Op{Gone: r.Intn(3) == 0, Path: name(r.Intn(60)), Data: strings.Repeat("x", r.Intn(3))}
			if _, has := model[op.Path]; op.Gone && !has || !has && len(model) == 40 {
				continue
			}
			if op.Gone {
				op.Data = ""
				delete(model, op.Path)
			} else {
				model[op.Path] = op.Data
			}
			ops = append(ops, op)
		}
		applied(t, "many", l, ops, listed(model), api.OK)
	}
}

// some fills the model with some files, and lists them.
func some(r *rand.Rand, model map[string]string) []api.File {
	for n := min(r.Intn(60), 40); len(model) < n; {
		model[name(r.Intn(60))] = strings.Repeat("x", r.Intn(3))
	}
	return listed(model)
}

func listed(model map[string]string) []api.File {
	var l []api.File
	for _, path := range slices.Sorted(maps.Keys(model)) {
		l = append(l, api.File{Path: path, Data: model[path]})
	}
	return l
}

// P5.3: the ops by which one comes of the other.
func TestDiff(t *testing.T) {
	l := []api.File{{Path: "a", Data: "1"}, {Path: "b"}, {Path: "c", Data: "3"}}
	for _, c := range []struct {
		what string
		a, b []api.File
		want []api.Op
	}{
		{"nothing", nil, nil, nil},
		{"the same", l, slices.Clone(l), nil},
		{"all", nil, l, []api.Op{{Path: "a", Data: "1"}, {Path: "b"}, {Path: "c", Data: "3"}}},
		{"all gone", l, nil, []api.Op{{Gone: true, Path: "a"}, {Gone: true, Path: "b"}, {Gone: true, Path: "c"}}},
		{"other bytes", l, []api.File{l[0], {Path: "b", Data: "2"}, l[2]}, []api.Op{{Path: "b", Data: "2"}}},
		{"no bytes", l, []api.File{{Path: "a"}, l[1], l[2]}, []api.Op{{Path: "a"}}},
		{"one gone", l, []api.File{l[0], l[2]}, []api.Op{{Gone: true, Path: "b"}}},
		{"one more", []api.File{l[0], l[2]}, l, []api.Op{{Path: "b"}}},
		{"byte by byte", []api.File{{Path: "a/b"}, {Path: "a0"}}, []api.File{{Path: "a"}, {Path: "a.b"}, {Path: "a0", Data: "x"}}, []api.Op{{Path: "a"}, {Path: "a.b"}, {Gone: true, Path: "a/b"}, {Path: "a0", Data: "x"}}},
		{"all kinds", []api.File{{Path: "a", Data: "1"}, {Path: "c", Data: "1"}, {Path: "d", Data: "1"}, {Path: "e", Data: "1"}}, []api.File{{Path: "b", Data: "2"}, {Path: "c", Data: "1"}, {Path: "d", Data: "2"}, {Path: "f"}},
			[]api.Op{{Gone: true, Path: "a"}, {Path: "b", Data: "2"}, {Path: "d", Data: "2"}, {Gone: true, Path: "e"}, {Path: "f"}}},
	} {
		a, wholeA := roomy(c.a, api.File{Path: "mark"})
		b, wholeB := roomy(c.b, api.File{Path: "mark"})
		wasA, wasB := slices.Clone(wholeA), slices.Clone(wholeB)
		if got := files.Diff(a, b); !slices.Equal(got, c.want) {
			t.Errorf("%s: %v; want %v", c.what, got, c.want)
		}
		if !slices.Equal(wholeA, wasA) || !slices.Equal(wholeB, wasB) {
			t.Errorf("%s: what was handed in was changed", c.what)
		}
	}
	for _, wrong := range wrongLists() {
		for _, other := range [][]api.File{nil, l, wrong} {
			if got := files.Diff(wrong, other); len(got) != 0 {
				t.Errorf("Diff of wrong files: %v", got)
			}
			if got := files.Diff(other, wrong); len(got) != 0 {
				t.Errorf("Diff to wrong files: %v", got)
			}
		}
	}
}

// bytesOf are the bytes of an op, by the chapter.
func bytesOf(op api.Op) string {
	b := []byte{0, byte(len(op.Path))}
	if op.Gone {
		b[0] = 1
	}
	b = append(b, op.Path...)
	if !op.Gone {
		b = append(b, byte(len(op.Data)/256), byte(len(op.Data)%256))
		b = append(b, op.Data...)
	}
	return string(b)
}

// P5.4: ops as bytes, and these as ops again.
func TestEncode(t *testing.T) {
	most := api.Op{Path: "a", Data: long[:4096-5]}
	small := slices.Repeat([]api.Op{{Gone: true, Path: "ab"}}, 1024)
	for i, ops := range [][]api.Op{
		nil, {{Path: "a"}}, {{Gone: true, Path: "a"}}, {{Path: "a/b.go", Data: "package b\n"}}, {{Path: sixt, Data: "\x00\xff"}}, {{Gone: true, Path: sixt}},
		{{Path: "a", Data: long[:255]}}, {{Path: "a", Data: long[:256]}}, {{Path: "a", Data: long[:257]}}, {{Path: "a", Data: long[:1000]}}, {most}, {{Path: sixt, Data: long[:4096-64]}},
		{{Path: "b", Data: "1"}, {Gone: true, Path: "b"}, {Path: "a"}, {Path: "a"}, {Path: "a", Data: "2"}}, small, {{Path: "a", Data: long[:2000]}, {Gone: true, Path: "b"}, {Path: "c", Data: long[:2083]}},
	} {
		want := ""
		for _, op := range ops {
			want += bytesOf(op)
		}
		in, whole := roomy(ops, api.Op{Path: "mark"})
		got, e := files.Encode(in)
		if e != api.OK || got != want {
			t.Errorf("Encode %d: %q, %d; want %q", i, got, e, want)
		}
		if !slices.Equal(whole[:len(ops)], ops) || whole[len(ops)].Path != "mark" {
			t.Errorf("Encode %d: the ops were changed", i)
		}
		if back, e := files.Decode(want); e != api.OK || !slices.Equal(back, ops) {
			t.Errorf("Decode %d: %v, %d; want %v", i, back, e, ops)
		}
	}
	if got, _ := files.Encode([]api.Op{{Path: "a/b", Data: "xy"}, {Gone: true, Path: "c"}}); got != "\x00\x03a/b\x00\x02xy\x01\x01c" {
		t.Errorf("Encode: %q", got)
	}
}

// P5.4: the errors of Encode, and which of them holds first.
func TestEncodeWrong(t *testing.T) {
	fails := func(what string, want api.Errno, ops ...api.Op) {
		t.Helper()
		if got, e := files.Encode(ops); got != "" || e != want {
			t.Errorf("%s: %q, %d; want %d", what, got, e, want)
		}
	}
	good, big := api.Op{Path: "a", Data: "1"}, api.Op{Path: "a", Data: long}
	for _, s := range wrongPaths() {
		fails("path", api.ErrPath, api.Op{Path: s})
		fails("path, gone", api.ErrPath, good, api.Op{Gone: true, Path: s, Data: "x"})
	}
	fails("path ahead of size", api.ErrPath, api.Op{Path: "/", Data: long + "x"})
	fails("gone with data", api.ErrArg, api.Op{Gone: true, Path: "a", Data: "x"})
	fails("gone with much data", api.ErrArg, api.Op{Gone: true, Path: "a", Data: long + "x"})
	fails("size", api.ErrSize, api.Op{Path: "a", Data: long + "x"})
	fails("size in all, of one", api.ErrSize, big)
	fails("one byte too many", api.ErrSize, api.Op{Path: "a", Data: long[:4092]})
	fails("size in all, of many", api.ErrSize, slices.Repeat([]api.Op{{Gone: true, Path: "ab"}}, 1025)...)
	fails("size in all, gone", api.ErrSize, append(slices.Repeat([]api.Op{{Gone: true, Path: "ab"}}, 1023), api.Op{Gone: true, Path: "abc"})...)
	fails("path behind what is too long", api.ErrPath, big, big, api.Op{Path: ""})
	fails("gone with data behind what is too long", api.ErrArg, big, api.Op{Gone: true, Path: "a", Data: "x"})
	fails("the first one: arg", api.ErrArg, good, api.Op{Gone: true, Path: "a", Data: "x"}, api.Op{Path: ""})
	fails("the first one: size", api.ErrSize, good, api.Op{Path: "a", Data: long + "x"}, api.Op{Path: ""})
	fails("the first one: path", api.ErrPath, good, api.Op{Path: ""}, api.Op{Gone: true, Path: "a", Data: "x"})
}

// P5.4: bytes that are no ops.
func TestDecodeWrong(t *testing.T) {
	good := "\x00\x03a/b\x00\x02xy\x01\x01c\x00\x01d\x00\x00"
	ends := map[int]bool{0: true, 9: true, 12: true, 17: true}
	for n := range len(good) + 1 {
		ops, e := files.Decode(good[:n])
		if ends[n] != (e == api.OK) || e != api.OK && (e != api.ErrArg || len(ops) != 0) {
			t.Errorf("Decode of %d bytes: %v, %d", n, ops, e)
		}
	}
	for _, s := range []string{
		"\x00", "\x01", "\x02\x01a", "\x02\x01a\x00\x00", "\xff\x01a", "0\x01a\x00\x00", "\x00\x00\x00\x00", "\x01\x00", "\x00\x01a\x00", "\x00\x01a\x00\x01", "\x00\x01a\x01\x00x", "\x00\x02a/\x00\x00", "\x01\x01.", "\x01\x02..",
		"\x00\x01a\x00\x00\x00", "\x01\x01a\x00", "\x01\x02a", "\x00\x02a", "\x00\x01a\x00\x00x", good + "x", "x" + good, "\x01\x01a\x01\x01 ", "\x01\x3d" + strings.Repeat("x", 61), "\x01\xff" + strings.Repeat("x", 255), "\x01\x80" + strings.Repeat("x", 128),
		"\x00\x01a\x10\x00" + long, "\x00\x01a\x10\x01" + long + "x", "\x00\x01a\xff\xff" + strings.Repeat("x", 65535), "\x00\x01a\x0f\xfc" + long[:4092], strings.Repeat("\x01\x02ab", 1025), "\x01\x3ba" + strings.Repeat("/a", 29) + "/",
	} {
		if ops, e := files.Decode(s); e != api.ErrArg || len(ops) != 0 {
			t.Errorf("Decode of %d bytes, %.20q: %v, %d", len(s), s, ops, e)
		}
	}
	if ops, e := files.Decode("\x00\x01a\x0f\xfb" + long[:4091]); e != api.OK || len(ops) != 1 || ops[0].Data != long[:4091] {
		t.Errorf("Decode of 4096 bytes: %d", e)
	}
}

// P5.4: whatever the bytes are, they are either those of the ops that they are decoded to, or of none.
func TestDecodeAny(t *testing.T) {
	r := rand.New(rand.NewSource(7))
	good := "\x00\x03a/b\x00\x02xy\x01\x01c\x00\x01d\x00\x00"
	for range 20000 {
		b := []byte(good)
		for range 1 + r.Intn(3) {
			b[r.Intn(len(b))] = byte(r.Intn(5)) + byte(r.Intn(2))*'a'
		}
		ops, e := files.Decode(string(b))
		if e != api.OK {
			if e != api.ErrArg || len(ops) != 0 {
				t.Fatalf("Decode(%q): %v, %d", b, ops, e)
			}
			continue
		}
		again := ""
		for _, op := range ops {
			again += bytesOf(op)
			if op.Gone && op.Data != "" || !files.Path(op.Path) {
				t.Fatalf("Decode(%q): %v", b, ops)
			}
		}
		if again != string(b) {
			t.Fatalf("Decode(%q): %v, which are %q", b, ops, again)
		}
	}
}

// P5.5: what is applied of a difference is the other one, unless there are more than 40 files on the way; ops are decoded as they were.
func TestThereAndBack(t *testing.T) {
	r := rand.New(rand.NewSource(55))
	full := 0
	for range 1000 {
		a, b := some(r, map[string]string{}), some(r, map[string]string{})
		ops := files.Diff(a, b)
		if !slices.IsSortedFunc(ops, func(x, y api.Op) int { return strings.Compare(x.Path, y.Path) }) {
			t.Fatalf("the ops are in no order: %v", ops)
		}
		way, most := len(a), len(a)
		has := map[string]bool{}
		for _, f := range a {
			has[f.Path] = true
		}
		for _, op := range ops {
			if op.Gone {
				way--
			} else if !has[op.Path] {
				way++
			}
			most = max(most, way)
		}
		got, e := files.Apply(a, ops)
		switch {
		case most > 40:
			full++
			if e != api.ErrFull || len(got) != 0 {
				t.Fatalf("%d files on the way: %v, %d", most, got, e)
			}
		case e != api.OK || !slices.Equal(got, b):
			t.Fatalf("%v, %d; want %v", got, e, b)
		}
		text, e := files.Encode(ops)
		if back, e2 := files.Decode(text); e != api.OK || e2 != api.OK || !slices.Equal(back, ops) {
			t.Fatalf("%v, %d, %d; want %v", back, e, e2, ops)
		}
	}
	if full == 0 {
		t.Fatal("there were never more than 40 files on the way")
	}
}
