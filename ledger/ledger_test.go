package ledger_test

import (
	"encoding/base64"
	"math/rand"
	"slices"
	"strconv"
	"strings"
	"testing"

	"armada/api"
	"armada/ledger"
	"armada/ver"
)

// v is the version of a text that has one.
func v(s string) api.Ver {
	got, ok := ver.Parse(s)
	if !ok {
		panic(s + " is no version")
	}
	return got
}

// hash is what a module's files may come to, another one for each n below 256.
func hash(n int) string {
	return "h1:" + base64.StdEncoding.EncodeToString([]byte(strings.Repeat(string([]byte{byte(n)}), 32)))
}

func tag(path string, version string, n int) api.Tag {
	return api.Tag{Path: path, Ver: v(version), Hash: hash(n)}
}

// line is a tag as a ledger has it, by the chapter's words.
func line(t api.Tag) string { return t.Path + " " + ver.Text(t.Ver) + " " + t.Hash + "\n" }

// lines are tags as lines, be they tags that may stand, or not.
func lines(l ...api.Tag) string {
	s := ""
	for _, t := range l {
		s += line(t)
	}
	return s
}

// releases are tags of many modules, in one another's way.
func releases() []api.Tag {
	return []api.Tag{
		tag("ex/a", "v0.1.0", 0), tag("ex/b/v2", "v2.0.0", 1), tag("ex/a", "v0.1.1-rc.1", 2), tag("ex/a", "v0.1.1", 2), tag("ex/b", "v1.9.0+b.1", 3), tag("ex/b/v2", "v2.0.1", 4), tag("ex/b/v3", "v3.0.0-0", 5), tag("ex/a", "v1.0.0", 255), tag("a", "v0.0.0", 0), tag("ex/b", "v1.10.0", 7),
	}
}

// wrongTags are tags that may stand behind none, and the error of each.
func wrongTags() []struct {
	tag api.Tag
	e   api.Errno
} {
	type wrong = struct {
		tag api.Tag
		e   api.Errno
	}
	none := api.Ver{Major: -1}
	var l []wrong
	for _, p := range []string{"", "/", "ex//a", "ex/a/", "/ex/a", "..", "v2", "ex/v2/a", "ex/a/v1", "ex/a/v02", "ex/a/v0", "ex a", "ex/ä", "ex/a\n", "ex\ta", strings.Repeat("x", 61)} {
		l = append(l, wrong{api.Tag{Path: p, Ver: v("v1.0.0"), Hash: hash(0)}, api.ErrPath})
	}
	for _, x := range []api.Ver{none, {Minor: -1}, {Patch: -1}, {Major: 1, Patch: api.MaxNum + 1}, {Pre: "01"}, {Pre: "a."}, {Pre: "a b"}, {Build: "a\n"}, {Build: strings.Repeat("x", 31)}} {
		l = append(l, wrong{api.Tag{Path: "ex/a", Ver: x, Hash: hash(0)}, api.ErrVer})
	}
	for p, s := range map[string]string{"ex/a": "v2.0.0", "ex/a/v2": "v1.0.0", "ex/a/v3": "v2.0.0", "a": "v999999999.0.0", "ex/b/v2": "v3.0.0-rc.1"} {
		l = append(l, wrong{tag(p, s, 0), api.ErrMajor})
	}
	for _, h := range []string{"", "h1:", "h1", hash(0) + "=", hash(0) + " ", hash(0) + "\n", hash(0)[3:], "h2:" + hash(0)[3:], "H1:" + hash(0)[3:], "h1:YQ==", hash(0)[:46], "h1:" + strings.Repeat("A", 44)} {
		l = append(l, wrong{api.Tag{Path: "ex/a", Ver: v("v1.0.0"), Hash: h}, api.ErrSum})
	}
	// Of several faults the first one is told.
	return append(l,
		wrong{api.Tag{}, api.ErrPath},
		wrong{api.Tag{Path: "v2", Ver: none, Hash: "x"}, api.ErrPath},
		wrong{api.Tag{Path: "ex/v1", Ver: v("v3.0.0"), Hash: hash(0)}, api.ErrPath},
		wrong{api.Tag{Path: "v2", Ver: v("v1.0.0"), Hash: "x"}, api.ErrPath},
		wrong{api.Tag{Path: "ex/a/v2", Ver: none, Hash: "x"}, api.ErrVer},
		wrong{api.Tag{Path: "ex/a", Ver: none, Hash: hash(0)}, api.ErrVer},
		wrong{api.Tag{Path: "ex/a", Ver: none, Hash: "x"}, api.ErrVer},
		wrong{api.Tag{Path: "ex/a", Ver: v("v2.0.0"), Hash: "x"}, api.ErrMajor},
		wrong{api.Tag{Path: "ex/a/v2", Ver: v("v0.0.0"), Hash: ""}, api.ErrMajor},
	)
}

// P15.1: a tag stands behind all others.
func TestAdd(t *testing.T) {
	var l []api.Tag
	for i, r := range releases() {
		was := slices.Clone(l)
		got, e := ledger.Add(l, r)
		if e != api.OK || !slices.Equal(got, append(was, r)) {
			t.Fatalf("Add of %v: %v, %d", r, got, e)
		}
		if l = got; len(l) != i+1 {
			t.Fatalf("%d tags", len(l))
		}
	}
	if got, e := ledger.Add(nil, tag("ex/a", "v0.0.0-0", 0)); e != api.OK || !slices.Equal(got, []api.Tag{tag("ex/a", "v0.0.0-0", 0)}) {
		t.Errorf("%v, %d", got, e)
	}
}

// P15.1: what may stand behind none, and the first one of its errors; of a version that stands already, too.
func TestAddOfWrongTags(t *testing.T) {
	for _, c := range wrongTags() {
		for _, l := range [][]api.Tag{nil, releases(), {c.tag}, {tag("ex/a", "v1.999999999.0", 0), c.tag}} {
			if got, e := ledger.Add(l, c.tag); e != c.e || len(got) != 0 {
				t.Errorf("Add(%v, %v): %v, %d, want %d", l, c.tag, got, e, c.e)
			}
		}
	}
}

// P15.1: all others of its path stand ahead of it; the place of each is of no moment, and others are not looked at.
func TestAddInOrder(t *testing.T) {
	odd := api.Tag{Path: "ex/a", Ver: api.Ver{Major: -1}, Hash: hash(0)}
	for _, c := range []struct {
		l    []api.Tag
		t    api.Tag
		want api.Errno
	}{
		{[]api.Tag{tag("ex/a", "v1.0.0", 0)}, tag("ex/a", "v1.0.0", 0), api.ErrTag},
		{[]api.Tag{tag("ex/a", "v1.0.0", 0)}, tag("ex/a", "v1.0.0", 1), api.ErrTag},
		{[]api.Tag{tag("ex/a", "v1.0.0", 0)}, tag("ex/a", "v1.0.1", 0), api.OK},
		{[]api.Tag{tag("ex/a", "v1.0.0", 0)}, tag("ex/a", "v0.9.9", 0), api.ErrTag},
		{[]api.Tag{tag("ex/a", "v1.0.0", 0)}, tag("ex/a", "v1.0.0-rc.1", 0), api.ErrTag},
		{[]api.Tag{tag("ex/a", "v1.0.0-rc.1", 0)}, tag("ex/a", "v1.0.0", 0), api.OK},
		{[]api.Tag{tag("ex/a", "v1.0.0-rc.9", 0)}, tag("ex/a", "v1.0.0-rc.10", 0), api.OK},
		{[]api.Tag{tag("ex/a", "v1.0.0-rc.10", 0)}, tag("ex/a", "v1.0.0-rc.9", 0), api.ErrTag},
		{[]api.Tag{tag("ex/a", "v1.0.0+a", 0)}, tag("ex/a", "v1.0.0+b", 0), api.ErrTag},
		{[]api.Tag{tag("ex/a", "v1.0.0+b", 0)}, tag("ex/a", "v1.0.0", 0), api.ErrTag},
		{[]api.Tag{tag("ex/a", "v1.9.0", 0)}, tag("ex/a", "v1.10.0", 0), api.OK},
		{[]api.Tag{tag("ex/a", "v1.10.0", 0)}, tag("ex/a", "v1.9.0", 0), api.ErrTag},
		{[]api.Tag{tag("ex/a", "v1.5.0", 0), tag("ex/a", "v1.1.0", 0)}, tag("ex/a", "v1.2.0", 0), api.ErrTag},
		{[]api.Tag{tag("ex/a", "v1.1.0", 0), tag("ex/a", "v1.5.0", 0), tag("ex/b", "v1.1.0", 0)}, tag("ex/a", "v1.2.0", 0), api.ErrTag},
		{[]api.Tag{tag("ex/a", "v1.1.0", 0), tag("ex/a", "v1.1.0", 0)}, tag("ex/a", "v1.2.0", 0), api.OK},
		{[]api.Tag{tag("ex/a", "v1.5.0", 0), tag("ex/a", "v1.1.0", 0)}, tag("ex/a", "v1.6.0", 0), api.OK},
		{[]api.Tag{tag("ex/b", "v1.5.0", 0), tag("ex/a/v2", "v2.0.0", 0), tag("ex", "v1.9.0", 0), tag("Ex/a", "v1.9.0", 0)}, tag("ex/a", "v0.0.1", 0), api.OK},
		{[]api.Tag{{}, {Path: "//", Ver: v("v9.0.0")}, {Path: "ex/b", Ver: api.Ver{Major: -1}}, {Path: "ex/a", Ver: v("v0.0.1"), Hash: "x"}}, tag("ex/a", "v0.0.2", 0), api.OK},
		{[]api.Tag{{Path: "ex/a", Ver: v("v0.0.1"), Hash: "x"}}, tag("ex/a", "v0.0.1", 0), api.ErrTag},
		{[]api.Tag{{Path: "ex/a", Ver: v("v2.0.0"), Hash: hash(0)}}, tag("ex/a", "v1.0.0", 0), api.ErrTag},
		// A version that may not be stands ahead of none.
		{[]api.Tag{odd}, tag("ex/a", "v1.0.0", 0), api.ErrTag},
		{[]api.Tag{odd, tag("ex/a", "v0.0.1", 0)}, tag("ex/a", "v1.0.0", 0), api.ErrTag},
	} {
		var want []api.Tag
		if c.want == api.OK {
			want = append(slices.Clone(c.l), c.t)
		}
		if got, e := ledger.Add(c.l, c.t); e != c.want || !slices.Equal(got, want) {
			t.Errorf("Add(%v, %v): %v, %d, want %d", c.l, c.t, got, e, c.want)
		}
	}
}

// P15.2: the tags of lines, in order.
func TestParse(t *testing.T) {
	all := releases()
	for n := range len(all) + 1 {
		for _, s := range []string{lines(all[:n]...), strings.TrimSuffix(lines(all[:n]...), "\n")} {
			if got, count, e := ledger.Parse(s); e != api.OK || count != n || !slices.Equal(got, all[:n]) {
				t.Errorf("Parse(%q): %v, %d, %d", s, got, count, e)
			}
		}
	}
	want := []api.Tag{{Path: "a-b_c.d/v12", Ver: api.Ver{Major: 12, Minor: 0, Patch: 999999999, Pre: "a-.0.x", Build: "01.-"}, Hash: "h1:" + strings.Repeat("/", 42) + "8="}}
	s := "a-b_c.d/v12 v12.0.999999999-a-.0.x+01.- h1:" + strings.Repeat("/", 42) + "8="
	if got, count, e := ledger.Parse(s); e != api.OK || count != 1 || !slices.Equal(got, want) {
		t.Errorf("Parse(%q): %v, %d, %d", s, got, count, e)
	}
}

// wrongLines are lines that are not three words, the second one a version's text.
func wrongLines() []string {
	h := hash(0)
	return []string{
		"", " ", "  ", "x", "ex/z", "ex/z v1.0.0", "v1.0.0", h, "ex/z " + h, "v1.0.0 " + h, "ex/z v1.0.0 ", " v1.0.0 " + h, "ex/z  " + h, "  ",
		"ex/z v1.0.0 " + h + " ", " ex/z v1.0.0 " + h, "ex/z  v1.0.0 " + h, "ex/z v1.0.0  " + h, "ex/z v1.0.0 " + h + " x", "ex/z v1.0.0 " + h + " // x", "ex/z v1.0.0 " + h + " " + h, "tag ex/z v1.0.0 " + h,
		"ex/z\tv1.0.0\t" + h, "ex/z v1.0.0\t" + h, "ex/z\tv1.0.0 " + h, "ex/z \tv1.0.0 " + h,
		"ex/z 1.0.0 " + h, "ex/z v1.0 " + h, "ex/z v1 " + h, "ex/z v01.0.0 " + h, "ex/z v1.0.0- " + h, "ex/z v1.0.0+ " + h, "ex/z v1.0.0-01 " + h, "ex/z V1.0.0 " + h, "ex/z v1.0.1000000000 " + h, "ex/z v1.0.0.0 " + h, "ex/z - " + h, "ex/z v-1.0.0 " + h, "ex/z v1.0.0\r " + h, "v1.0.0 ex/z " + h, "ex/z " + h + " v1.0.0",
		"// x", "# x y", "/ v1 x",
	}
}

// P15.2: a line that is no such words, and its place; whatever else is wrong with it, and with lines behind it.
func TestParseOfWrongLines(t *testing.T) {
	all := releases()
	for _, w := range wrongLines() {
		for n := range len(all) + 1 {
			for _, s := range []string{lines(all[:n]...) + w + "\n", lines(all[:n]...) + w + "\n" + lines(all[n:]...), lines(all[:n]...) + w + "\n\nex//a v1.0.0 x\n" + w + "\n"} {
				if got, at, e := ledger.Parse(s); e != api.ErrLine || at != n || len(got) != 0 {
					t.Errorf("Parse(%q): %v, %d, %d", s, got, at, e)
				}
			}
		}
	}
}

// P15.2: a tag that may not stand, its place, and its error.
func TestParseOfWrongTags(t *testing.T) {
	h := hash(0)
	for _, c := range []struct {
		s    string
		want api.Errno
	}{
		{"/ v1.0.0 " + h, api.ErrPath}, {"ex/v1 v1.0.0 " + h, api.ErrPath}, {"v2 v2.0.0 x", api.ErrPath}, {"ex\tz v1.0.0 " + h, api.ErrPath}, {"\xff v1.0.0 " + h, api.ErrPath}, {"// v1.0.0 x", api.ErrPath}, {"\r v1.0.0 " + h, api.ErrPath},
		{"ex/z v2.0.0 " + h, api.ErrMajor}, {"ex/z v2.0.0 x", api.ErrMajor}, {"ex/z/v2 v1.0.0 " + h, api.ErrMajor},
		{"ex/z v1.0.0 x", api.ErrSum}, {"ex/z v1.0.0 " + h + "\r", api.ErrSum}, {"ex/z v1.0.0 " + h + "\t", api.ErrSum}, {"ex/z v1.0.0 h1:", api.ErrSum}, {"ex/z v1.0.0 \x00", api.ErrSum}, {"ex/a v0.0.1 x", api.ErrSum},
	} {
		all := releases()
		for n := range len(all) + 1 {
			for _, s := range []string{lines(all[:n]...) + c.s, lines(all[:n]...) + c.s + "\n" + lines(all[n:]...), lines(all[:n]...) + c.s + "\nx\n" + c.s} {
				if got, at, e := ledger.Parse(s); e != c.want || at != n || len(got) != 0 {
					t.Errorf("Parse(%q): %v, %d, %d, want %d", s, got, at, e, c.want)
				}
			}
		}
	}
}

// P15.2, P15.3: tags that do not stand behind those ahead of them, and the place of the first one.
func TestOutOfOrder(t *testing.T) {
	for i, c := range []struct {
		l    []api.Tag
		at   int
		want api.Errno
	}{
		{[]api.Tag{tag("ex/a", "v1.0.0", 0), tag("ex/a", "v1.0.0", 0)}, 1, api.ErrTag},
		{[]api.Tag{tag("ex/a", "v1.0.0", 0), tag("ex/a", "v1.0.0+x", 1)}, 1, api.ErrTag},
		{[]api.Tag{tag("ex/a", "v1.0.0", 0), tag("ex/b", "v1.0.0", 0), tag("ex/c", "v1.0.0", 0), tag("ex/a", "v0.9.0", 0)}, 3, api.ErrTag},
		{[]api.Tag{tag("ex/a", "v1.0.0", 0), tag("ex/a", "v1.2.0", 0), tag("ex/a", "v1.1.0", 0), tag("ex/a", "v1.3.0", 0)}, 2, api.ErrTag},
		{[]api.Tag{tag("ex/a", "v1.0.0", 0), tag("ex/b", "v1.2.0", 0), tag("ex/a", "v1.2.0", 0), tag("ex/b", "v1.1.0", 0)}, 3, api.ErrTag},
		{[]api.Tag{tag("ex/a", "v1.0.0", 0), tag("ex/a", "v1.1.0-rc", 0), tag("ex/a", "v1.1.0", 0), tag("ex/a", "v1.1.0-rd", 0)}, 3, api.ErrTag},
		{[]api.Tag{tag("ex/a", "v1.0.0", 0), tag("ex/a", "v2.0.0", 0), tag("ex/a", "v0.1.0", 0)}, 1, api.ErrMajor},
		{[]api.Tag{tag("ex/a", "v1.0.0", 0), tag("ex/a", "v0.1.0", 0), tag("ex/a", "v2.0.0", 0)}, 1, api.ErrTag},
		{[]api.Tag{tag("ex/a", "v1.0.0", 0), tag("ex/a/v2", "v2.0.0", 0), tag("ex/a", "v1.0.1", 0), {Path: "ex/a", Ver: v("v0.0.1"), Hash: "x"}}, 3, api.ErrSum},
	} {
		if got, at, e := ledger.Parse(lines(c.l...)); e != c.want || at != c.at || len(got) != 0 {
			t.Errorf("case %d: %v, %d, %d", i, got, at, e)
		}
		if got, at, e := ledger.Parse(lines(c.l[:c.at]...)); e != api.OK || at != c.at || !slices.Equal(got, c.l[:c.at]) {
			t.Errorf("case %d: %v, %d, %d", i, got, at, e)
		}
		if got, at, e := ledger.Parse(lines(c.l...) + "x"); e != c.want || at != c.at || len(got) != 0 {
			t.Errorf("case %d: %v, %d, %d", i, got, at, e)
		}
		if got, e := ledger.Text(c.l); e != c.want || got != "" {
			t.Errorf("case %d: %q, %d", i, got, e)
		}
		if got, e := ledger.Text(c.l[:c.at]); e != api.OK || got != lines(c.l[:c.at]...) {
			t.Errorf("case %d: %q, %d", i, got, e)
		}
	}
}

// P15.3: each tag a line.
func TestText(t *testing.T) {
	all := releases()
	for n := range len(all) + 1 {
		if got, e := ledger.Text(all[:n]); e != api.OK || got != lines(all[:n]...) {
			t.Errorf("Text(%v): %q, %d", all[:n], got, e)
		}
	}
	want := "ex/a v0.1.0-rc.1+x h1:AAAAAAAAAAAAAAAAAAAAAAAAAAAAAAAAAAAAAAAAAAA=\nex/a v0.1.0 h1:AQEBAQEBAQEBAQEBAQEBAQEBAQEBAQEBAQEBAQEBAQE=\n"
	if got, e := ledger.Text([]api.Tag{tag("ex/a", "v0.1.0-rc.1+x", 0), tag("ex/a", "v0.1.0", 1)}); e != api.OK || got != want {
		t.Errorf("%q, %d", got, e)
	}
}

// P15.3: the error of the first tag that may not stand.
func TestTextOfWrongTags(t *testing.T) {
	all := releases()
	for _, c := range wrongTags() {
		for n := range len(all) + 1 {
			for _, l := range [][]api.Tag{append(slices.Clone(all[:n]), c.tag), slices.Insert(slices.Clone(all), n, c.tag), append(slices.Clone(all[:n]), c.tag, api.Tag{}, c.tag)} {
				if got, e := ledger.Text(l); e != c.e || got != "" {
					t.Errorf("Text(%v): %q, %d, want %d", l, got, e, c.e)
				}
			}
		}
	}
}

// P15.4: the greatest version of a path, by what comes in whose place.
func TestLatest(t *testing.T) {
	odd := api.Ver{Major: -1}
	for _, c := range []struct {
		l    []api.Tag
		path string
		want int
	}{
		{nil, "ex/a", -1}, {nil, "", -1}, {releases(), "ex/c", -1}, {releases(), "", -1}, {releases(), "ex", -1}, {releases(), "ex/a/", -1}, {releases(), "ex/a/v2", -1}, {releases(), "Ex/a", -1},
		{releases(), "ex/a", 7}, {releases(), "ex/b", 9}, {releases(), "ex/b/v2", 5}, {releases(), "ex/b/v3", 6}, {releases(), "a", 8}, {releases()[:7], "ex/a", 3},
		{[]api.Tag{tag("ex/a", "v1.0.0", 0), tag("ex/a", "v1.2.0", 1), tag("ex/a", "v1.1.0", 2)}, "ex/a", 1},
		{[]api.Tag{tag("ex/a", "v1.2.0", 0), tag("ex/a", "v1.10.0", 1), tag("ex/b", "v1.11.0", 2)}, "ex/a", 1},
		{[]api.Tag{tag("ex/a", "v1.2.0-rc.1", 0), tag("ex/a", "v1.2.0", 1), tag("ex/a", "v1.2.0-rc.2", 2)}, "ex/a", 1},
		{[]api.Tag{tag("ex/a", "v1.2.0-rc.1", 0), tag("ex/a", "v1.1.9", 1)}, "ex/a", 0},
		{[]api.Tag{tag("ex/a", "v1.0.0+a", 0), tag("ex/a", "v1.0.0+b", 1), tag("ex/a", "v1.0.0", 2)}, "ex/a", 0},
		{[]api.Tag{tag("ex/a", "v0.9.0", 0), tag("ex/a", "v1.0.0", 1), tag("ex/a", "v1.0.0", 2)}, "ex/a", 1},
		// Nobody asks whether a tag may stand.
		{[]api.Tag{{}}, "", 0}, {[]api.Tag{tag("ex/a", "v1.0.0", 0), {Ver: v("v0.1.0")}, {Ver: v("v3.0.0"), Hash: "x"}, {Ver: v("v2.0.0")}}, "", 2},
		{[]api.Tag{{Path: "//", Ver: v("v2.0.0")}, {Path: "//", Ver: v("v1.0.0")}}, "//", 0}, {[]api.Tag{{Path: "ex/a", Ver: v("v9.0.0")}, tag("ex/a", "v1.0.0", 0)}, "ex/a", 0},
		// A version that may not be is above none, and none is above it.
		{[]api.Tag{{Path: "ex/a", Ver: odd}, tag("ex/a", "v1.0.0", 0)}, "ex/a", 0},
		{[]api.Tag{tag("ex/a", "v0.0.0-0", 0), {Path: "ex/a", Ver: api.Ver{Major: api.MaxNum + 1}}, tag("ex/a", "v0.0.1", 1)}, "ex/a", 2},
		{[]api.Tag{{Path: "ex/b", Ver: odd}, {Path: "ex/a", Ver: api.Ver{Minor: -1}, Hash: "h"}, {Path: "ex/a", Ver: odd}}, "ex/a", 1},
	} {
		var want api.Tag
		if c.want >= 0 {
			want = c.l[c.want]
		}
		if got, ok := ledger.Latest(c.l, c.path); got != want || ok != (c.want >= 0) {
			t.Errorf("Latest(%v, %q): %v, %v", c.l, c.path, got, ok)
		}
	}
}

// made is tags of a few paths and versions, in any order.
func made(r *rand.Rand) []api.Tag {
	texts := []string{"v0.1.0", "v0.1.1-rc.1", "v0.1.1", "v0.1.1+b", "v0.2.0", "v1.0.0-0", "v1.0.0", "v1.9.0", "v1.10.0"}
	var l []api.Tag
	for range r.Intn(10) {
		t := tag([]string{"a", "b", "ex/a"}[r.Intn(3)], texts[r.Intn(len(texts))], r.Intn(256))
		if r.Intn(20) == 0 {
			t.Path += "/v2"
		}
		l = append(l, t)
	}
	return l
}

// firstWrong is, by the chapter's words, the place of the first tag that may not stand behind those ahead of it, and its error; how many there are, if all may. Their paths, versions and hashes may be.
func firstWrong(l []api.Tag) (int, api.Errno) {
	for i, t := range l {
		if strings.HasSuffix(t.Path, "/v2") {
			return i, api.ErrMajor
		}
		for _, other := range l[:i] {
			if other.Path == t.Path && ver.Compare(other.Ver, t.Ver) != -1 {
				return i, api.ErrTag
			}
		}
	}
	return len(l), api.OK
}

// P15.1 to P15.3, P15.5: made-up tags; told as a text they are parsed as they were, and a path's latest one is its last.
func TestMade(t *testing.T) {
	r := rand.New(rand.NewSource(1))
	good := 0
	for range 20000 {
		l := made(r)
		at, e := firstWrong(l)
		parsed, n, parseErr := ledger.Parse(lines(l...))
		text, textErr := ledger.Text(l)
		if n != at || parseErr != e || textErr != e {
			t.Fatalf("%v: %d, %d, %d, want %d, %d", l, n, parseErr, textErr, at, e)
		}
		if e != api.OK {
			if len(parsed) != 0 || text != "" {
				t.Fatalf("%v: %v, %q", l, parsed, text)
			}
			added, addErr := ledger.Add(l[:at], l[at])
			if addErr != e || len(added) != 0 {
				t.Fatalf("%v: %v, %d", l, added, addErr)
			}
			continue
		}
		if again, _, _ := ledger.Parse(text); text != lines(l...) || !slices.Equal(parsed, l) || !slices.Equal(again, l) {
			t.Fatalf("%v: %v, %q", l, parsed, text)
		}
		last := map[string]api.Tag{}
		for _, x := range l {
			last[x.Path] = x
		}
		for path, want := range last {
			if got, ok := ledger.Latest(l, path); got != want || !ok {
				t.Fatalf("%v: the latest of %q is %v", l, path, got)
			}
		}
		good++
	}
	if good < 1000 {
		t.Errorf("only %d may be", good)
	}
}

// P15.2, P15.3: long ledgers, of one path and of many.
func TestLong(t *testing.T) {
	const many = 20000
	var one, each []api.Tag
	for i := range many {
		n := strconv.Itoa(i)
		one = append(one, tag("ex/a", "v1."+n+".0", i%256))
		each = append(each, tag("ex/a"+n, "v0.1.0", i%256))
	}
	for _, l := range [][]api.Tag{one, each} {
		text, e := ledger.Text(l)
		if e != api.OK || text != lineByLine(l) {
			t.Fatalf("Text: %d bytes, %d", len(text), e)
		}
		if got, n, e := ledger.Parse(text); e != api.OK || n != many || !slices.Equal(got, l) {
			t.Fatalf("Parse: %d, %d", n, e)
		}
		if got, n, e := ledger.Parse(text + line(l[many/2])); e != api.ErrTag || n != many || len(got) != 0 {
			t.Fatalf("Parse: %d, %d", n, e)
		}
	}
}

// lineByLine is lines, of many.
func lineByLine(l []api.Tag) string {
	var out strings.Builder
	for _, t := range l {
		out.WriteString(line(t))
	}
	return out.String()
}

// R5, R6: what is told is memory of its own, what is handed in stays, and it is the same again.
func TestOwnMemory(t *testing.T) {
	spare := append(make([]api.Tag, 0, 20), releases()...)
	beyond := spare[:len(spare)+1]
	x := tag("ex/a", "v1.0.1", 9)
	first, e := ledger.Add(spare, x)
	if e != api.OK || beyond[len(spare)] != (api.Tag{}) || !slices.Equal(spare, releases()) {
		t.Fatalf("%v, %d", beyond, e)
	}
	clear(first)
	if !slices.Equal(spare, releases()) {
		t.Fatalf("%v", spare)
	}
	if again, e := ledger.Add(spare, x); e != api.OK || !slices.Equal(again, append(releases(), x)) {
		t.Errorf("%v, %d", again, e)
	}
	text, _ := ledger.Text(spare)
	parsed, _, _ := ledger.Parse(text)
	clear(parsed)
	if again, n, e := ledger.Parse(text); n != len(spare) || e != api.OK || !slices.Equal(again, releases()) {
		t.Errorf("%v, %d, %d", again, n, e)
	}
	if again, e := ledger.Text(spare); again != text || e != api.OK {
		t.Errorf("%q, %d", again, e)
	}
}
