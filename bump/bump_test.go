package bump_test

import (
	"math"
	"math/rand"
	"slices"
	"strconv"
	"strings"
	"testing"

	"armada/api"
	"armada/bump"
	"armada/graph"
	"armada/ver"
)

// v is the version of a text that has one.
func v(s string) api.Ver {
	got, ok := ver.Parse(s)
	if !ok {
		panic(s + " is no version")
	}
	return got
}

// tags are tags, each a path and a version's text, with an `@` between them.
func tags(of ...string) []api.Tag {
	var l []api.Tag
	for _, s := range of {
		path, text, _ := strings.Cut(s, "@")
		l = append(l, api.Tag{Path: path, Ver: v(text), Hash: "of " + s})
	}
	return l
}

// mods are modules, each by its path and those that it requires.
func mods(of ...string) []api.Mod {
	var l []api.Mod
	for _, s := range of {
		words := strings.Fields(s)
		m := api.Mod{Dir: "dir of " + words[0], Path: words[0]}
		for _, p := range words[1:] {
			m.Reqs = append(m.Reqs, api.Req{Path: p, Ver: v("v0.0.1")})
		}
		l = append(l, m)
	}
	return l
}

// first is a release at a place of a module that has none yet; again, of one that has.
func first(at int, text string, level int) bump.Release {
	return bump.Release{At: at, New: v(text), Level: level}
}

func again(at int, old string, text string, level int) bump.Release {
	return bump.Release{At: at, Has: true, Old: v(old), New: v(text), Level: level}
}

// wrongPaths are texts that are no module's path.
func wrongPaths() []string {
	return []string{"", "/", "ex//a", "ex/a/", "/ex/a", ".", "..", "v2", "ex/v2/a", "ex/a/v1", "ex/a/v0", "ex/a/v02", "ex/a/v1000000000", "ex a", "ex/ä", "ex\n", strings.Repeat("x", 61)}
}

// P18.1: of the major that a path tells, v0.1.0 of one that tells none.
func TestFirst(t *testing.T) {
	for path, want := range map[string]string{"a": "v0.1.0", "ex/a": "v0.1.0", "ex/a2": "v0.1.0", "ex/V2": "v0.1.0", "v": "v0.1.0", "a/v": "v0.1.0", "a/v2x": "v0.1.0", strings.Repeat("x", 60): "v0.1.0", "a/v2": "v2.0.0", "ex/a/v3": "v3.0.0", "ex/a/v10": "v10.0.0", "a/v999999999": "v999999999.0.0"} {
		if got, ok := bump.First(path); got != v(want) || !ok {
			t.Errorf("First(%q): %v, %v", path, got, ok)
		}
	}
	for _, path := range wrongPaths() {
		if got, ok := bump.First(path); got != (api.Ver{}) || ok {
			t.Errorf("First(%q): %v, %v", path, got, ok)
		}
	}
}

// P18.2: the first release, and those behind one.
func TestNext(t *testing.T) {
	l := tags("ex/b@v9.0.0", "ex/a@v0.1.0", "ex/a/v2@v2.0.1", "ex/a@v0.10.3", "ex/a@v0.9.9", "ex/a/v2@v2.1.0-rc.1", "ex/a/v2@v2.1.0-rc.2+x", "ex/a/v2@v2.1.0-rc.2+y", "ex/c@v1.999999999.999999999", "ex/d@v1.2.999999999")
	for _, c := range []struct {
		path  string
		level int
		want  bump.Release
	}{
		{"ex/z", 1, first(0, "v0.1.0", 1)}, {"ex/z", 2, first(0, "v0.1.0", 2)}, {"ex/z", 3, first(0, "v0.1.0", 3)}, {"ex/z/v2", 1, first(0, "v2.0.0", 1)}, {"ex/b/v7", 3, first(0, "v7.0.0", 3)}, {"Ex/a", 2, first(0, "v0.1.0", 2)}, {"ex", 1, first(0, "v0.1.0", 1)}, {"ex/a/v3", 1, first(0, "v3.0.0", 1)},
		{"ex/a", 1, again(0, "v0.10.3", "v0.10.4", 1)}, {"ex/a", 2, again(0, "v0.10.3", "v0.11.0", 2)}, {"ex/a", 3, again(0, "v0.10.3", "v1.0.0", 3)},
		{"ex/a/v2", 1, again(0, "v2.1.0-rc.2+x", "v2.1.0", 1)}, {"ex/a/v2", 2, again(0, "v2.1.0-rc.2+x", "v2.1.0", 2)},
		{"ex/d", 1, again(0, "v1.2.999999999", "v1.3.0", 1)}, {"ex/d", 2, again(0, "v1.2.999999999", "v1.3.0", 2)},
	} {
		if got, e := bump.Next(c.path, l, c.level); got != c.want || e != api.OK {
			t.Errorf("Next(%q, %d): %v, %d", c.path, c.level, got, e)
		}
	}
	if got, e := bump.Next("ex/a", nil, 2); got != first(0, "v0.1.0", 2) || e != api.OK {
		t.Errorf("%v, %d", got, e)
	}
}

// P18.2: what is wrong, and the first one of the errors.
func TestNextErrors(t *testing.T) {
	l := tags("ex/b@v9.0.0", "ex/a@v1.2.3", "ex/a/v2@v2.5.0", "ex/b/v9@v9.0.0-rc.1", "ex/c@v1.999999999.999999999", "z/v999999999@v999999999.999999999.999999999", "ex/d/v2@v1.0.0", "ex/e/v2@v2.999999999.0", "ex/g@v999999999.0.0", "y/v999999999@v999999999.999999999.0")
	l = append(l, api.Tag{Path: "odd", Ver: api.Ver{Major: -1}}, api.Tag{Path: "odd", Ver: v("v1.0.0")}, api.Tag{Path: "big", Ver: api.Ver{Patch: api.MaxNum + 1}}, api.Tag{Path: "pre", Ver: api.Ver{Major: 1, Pre: "01"}}, api.Tag{Path: "odd/v2", Ver: api.Ver{Major: 3, Build: "+"}})
	for _, c := range []struct {
		path  string
		level int
		want  api.Errno
	}{
		{"ex/a", 0, api.ErrArg}, {"ex/a", 4, api.ErrArg}, {"ex/a", -1, api.ErrArg}, {"ex/z", 0, api.ErrArg}, {"ex/z", math.MaxInt, api.ErrArg}, {"ex/z/v2", math.MinInt, api.ErrArg}, {"odd", 0, api.ErrArg}, {"z/v999999999", 4, api.ErrArg}, {"ex/b", 4, api.ErrArg},
		{"odd", 1, api.ErrVer}, {"odd", 3, api.ErrVer}, {"big", 1, api.ErrVer}, {"pre", 2, api.ErrVer}, {"odd/v2", 1, api.ErrVer},
		{"z/v999999999", 1, api.ErrOver}, {"z/v999999999", 2, api.ErrOver}, {"z/v999999999", 3, api.ErrOver}, {"ex/g", 3, api.ErrOver}, {"y/v999999999", 2, api.ErrOver}, {"y/v999999999", 1, api.OK},
		{"ex/a", 3, api.ErrMajor}, {"ex/a", 1, api.OK}, {"ex/a/v2", 3, api.ErrMajor}, {"ex/a/v2", 2, api.OK}, {"ex/b", 1, api.ErrMajor}, {"ex/b", 2, api.ErrMajor}, {"ex/b/v9", 3, api.OK}, {"ex/c", 1, api.ErrMajor}, {"ex/c", 2, api.ErrMajor}, {"ex/c", 3, api.ErrMajor}, {"ex/e/v2", 1, api.OK}, {"ex/e/v2", 2, api.ErrMajor}, {"ex/g", 1, api.ErrMajor},
		// What was released does not fit, but what comes next does.
		{"ex/d/v2", 1, api.ErrMajor}, {"ex/d/v2", 2, api.ErrMajor}, {"ex/d/v2", 3, api.OK},
	} {
		if got, e := bump.Next(c.path, l, c.level); e != c.want || (got == bump.Release{}) != (e != api.OK) {
			t.Errorf("Next(%q, %d): %v, %d, want %d", c.path, c.level, got, e, c.want)
		}
	}
	for _, path := range wrongPaths() {
		for _, level := range []int{-1, 0, 1, 2, 3, 4} {
			for _, ts := range [][]api.Tag{nil, l, {{Path: path, Ver: v("v1.0.0")}}, {{Path: path, Ver: api.Ver{Major: -1}}}} {
				if got, e := bump.Next(path, ts, level); got != (bump.Release{}) || e != api.ErrPath {
					t.Errorf("Next(%q, %d): %v, %d", path, level, got, e)
				}
			}
		}
	}
}

// P18.3: who changed, who is wanted, and who depends on them; each behind those whom it requires.
func TestReleases(t *testing.T) {
	l := mods("d b c", "b a x", "c a", "a", "e/v2")
	was := tags("a@v1.0.0", "b@v1.2.3-rc.1", "d@v0.5.0", "x@v1.0.0", "b@v1.1.0")
	for i, c := range []struct {
		changed []int
		wants   []bump.Want
		want    []bump.Release
	}{
		{nil, nil, nil}, {[]int{-1, 5, 12, math.MaxInt, math.MinInt}, nil, nil},
		{[]int{0}, nil, []bump.Release{again(0, "v0.5.0", "v0.5.1", 1)}},
		{[]int{2}, nil, []bump.Release{first(2, "v0.1.0", 1), again(0, "v0.5.0", "v0.5.1", 1)}},
		{[]int{4, 1, 4}, nil, []bump.Release{again(1, "v1.2.3-rc.1", "v1.2.3", 1), again(0, "v0.5.0", "v0.5.1", 1), first(4, "v2.0.0", 1)}},
		{[]int{3}, nil, []bump.Release{again(3, "v1.0.0", "v1.0.1", 1), again(1, "v1.2.3-rc.1", "v1.2.3", 1), first(2, "v0.1.0", 1), again(0, "v0.5.0", "v0.5.1", 1)}},
		{nil, []bump.Want{{"a", 2}}, []bump.Release{again(3, "v1.0.0", "v1.1.0", 2), again(1, "v1.2.3-rc.1", "v1.2.3", 1), first(2, "v0.1.0", 1), again(0, "v0.5.0", "v0.5.1", 1)}},
		{[]int{3}, []bump.Want{{"d", 3}, {"b", 2}, {"c", 3}}, []bump.Release{again(3, "v1.0.0", "v1.0.1", 1), again(1, "v1.2.3-rc.1", "v1.3.0", 2), first(2, "v0.1.0", 3), again(0, "v0.5.0", "v1.0.0", 3)}},
		{[]int{-1}, []bump.Want{{"e/v2", 1}}, []bump.Release{first(4, "v2.0.0", 1)}}, {nil, []bump.Want{{"e/v2", 2}, {"d", 1}}, []bump.Release{again(0, "v0.5.0", "v0.5.1", 1), first(4, "v2.0.0", 2)}},
		{[]int{0}, []bump.Want{{"d", 2}}, []bump.Release{again(0, "v0.5.0", "v0.6.0", 2)}},
	} {
		if got, e := bump.Releases(l, was, c.changed, c.wants); !slices.Equal(got, c.want) || e != api.OK {
			t.Errorf("case %d: %v, %d", i, got, e)
		}
	}
	// Each behind those whom it requires, though its place is the least one.
	got, e := bump.Releases(mods("c b", "b", "d"), nil, []int{0, 1, 2}, nil)
	if want := []bump.Release{first(1, "v0.1.0", 1), first(0, "v0.1.0", 1), first(2, "v0.1.0", 1)}; !slices.Equal(got, want) || e != api.OK {
		t.Errorf("%v, %d", got, e)
	}
	if got, e := bump.Releases(nil, was, []int{0}, nil); len(got) != 0 || e != api.OK {
		t.Errorf("%v, %d", got, e)
	}
}

// P18.3: what holds first.
func TestReleasesErrors(t *testing.T) {
	l := mods("b a", "a", "c", "o", "p o")
	was := tags("a@v1.0.0", "b@v9.0.0", "p@v9.0.0", "c@v999999999.999999999.999999999")
	was = append(was, api.Tag{Path: "o", Ver: api.Ver{Major: -1}})
	var more []string
	for i := range api.MaxMods + 1 {
		more = append(more, "m"+strconv.Itoa(i))
	}
	for i, c := range []struct {
		l       []api.Mod
		changed []int
		wants   []bump.Want
		want    api.Errno
	}{
		{mods(more...), nil, nil, api.ErrArg}, {mods("a", "v2"), nil, nil, api.ErrPath}, {mods("a", "a"), nil, nil, api.ErrTwice}, {mods("a b", "b a"), nil, nil, api.ErrCycle}, {mods("a", "b b"), []int{0}, nil, api.ErrCycle},
		{mods("a a"), nil, []bump.Want{{"x", 0}}, api.ErrCycle}, {mods("a", "a"), nil, []bump.Want{{"x", 0}}, api.ErrTwice}, {mods("/"), nil, []bump.Want{{"/", 0}}, api.ErrPath}, {nil, nil, []bump.Want{{"a", 1}}, api.ErrNone},
		{l, nil, []bump.Want{{"x", 1}}, api.ErrNone}, {l, nil, []bump.Want{{"", 1}}, api.ErrNone}, {l, nil, []bump.Want{{"x", 0}}, api.ErrNone}, {l, nil, []bump.Want{{"x", 1}, {"x", 1}}, api.ErrNone}, {l, nil, []bump.Want{{"a", 1}, {"x", 0}}, api.ErrNone}, {l, nil, []bump.Want{{"dir of a", 1}}, api.ErrNone},
		{l, nil, []bump.Want{{"a", 0}}, api.ErrArg}, {l, nil, []bump.Want{{"a", 4}}, api.ErrArg}, {l, nil, []bump.Want{{"a", -1}}, api.ErrArg}, {l, nil, []bump.Want{{"a", math.MinInt}, {"x", 1}}, api.ErrArg}, {l, nil, []bump.Want{{"a", 1}, {"a", 0}}, api.ErrArg}, {l, nil, []bump.Want{{"a", 0}, {"a", 0}}, api.ErrArg}, {l, nil, []bump.Want{{"a", 1}, {"c", math.MaxInt}, {"a", 1}}, api.ErrArg},
		{l, nil, []bump.Want{{"a", 1}, {"a", 1}}, api.ErrTwice}, {l, nil, []bump.Want{{"a", 1}, {"a", 2}, {"x", 1}}, api.ErrTwice}, {l, nil, []bump.Want{{"a", 3}, {"b", 1}, {"c", 1}, {"a", 3}, {"a", 0}}, api.ErrTwice},
		// What is wrong with wants holds ahead of what is wrong with releases.
		{l, []int{3}, []bump.Want{{"x", 1}}, api.ErrNone}, {l, []int{2}, []bump.Want{{"b", 0}}, api.ErrArg}, {l, []int{2}, []bump.Want{{"c", 1}, {"c", 1}}, api.ErrTwice},
		{l, []int{2}, nil, api.ErrOver}, {l, []int{0}, nil, api.ErrMajor}, {l, []int{1}, nil, api.ErrMajor}, {l, []int{3}, nil, api.ErrVer}, {l, nil, []bump.Want{{"a", 3}}, api.ErrMajor}, {l, nil, []bump.Want{{"c", 1}}, api.ErrOver},
		// The first one in order that has one: a, b, c, o, p.
		{l, []int{3, 2, 0}, nil, api.ErrMajor}, {l, []int{3, 2}, nil, api.ErrOver}, {l, []int{4, 3}, nil, api.ErrVer}, {l, []int{4}, nil, api.ErrMajor}, {mods("p o", "o"), []int{0, 1}, nil, api.ErrVer}, {mods("c", "b"), []int{1, 0}, nil, api.ErrOver}, {mods("c b", "b"), []int{0, 1}, nil, api.ErrMajor},
	} {
		if got, e := bump.Releases(c.l, was, c.changed, c.wants); e != c.want || len(got) != 0 {
			t.Errorf("case %d: %v, %d, want %d", i, got, e, c.want)
		}
	}
	// Whoever is not released has no error.
	if got, e := bump.Releases(mods("c", "o", "a"), was, []int{2}, nil); !slices.Equal(got, []bump.Release{again(2, "v1.0.0", "v1.0.1", 1)}) || e != api.OK {
		t.Errorf("%v, %d", got, e)
	}
}

// P18.4: each requirement of a module that is released, in the first of its new versions.
func TestEdits(t *testing.T) {
	l := mods("d c a x a", "b", "c a b", "a", "s s", "c/v2 c")
	l[0].Reqs[1].Ver = v("v1.0.1")
	for i, c := range []struct {
		of   []bump.Release
		at   int
		want string
	}{
		{nil, 0, ""}, {[]bump.Release{first(3, "v0.1.0", 1)}, 0, "a@v0.1.0 a@v0.1.0"}, {[]bump.Release{first(1, "v0.1.0", 1)}, 0, ""}, {[]bump.Release{first(0, "v0.1.0", 1)}, 0, ""},
		{[]bump.Release{again(3, "v1.0.0", "v1.0.1", 1), first(1, "v0.1.0", 1), again(2, "v1.5.0", "v1.6.0", 2)}, 0, "c@v1.6.0 a@v1.0.1 a@v1.0.1"},
		{[]bump.Release{first(1, "v0.2.0", 1), again(3, "v1.0.0", "v1.0.1", 1)}, 2, "a@v1.0.1 b@v0.2.0"}, {[]bump.Release{first(1, "v0.2.0", 1)}, 2, "b@v0.2.0"},
		// The first one of a module; be it of any version.
		{[]bump.Release{first(1, "v0.2.0", 1), first(3, "v0.3.0", 1), first(1, "v0.4.0", 1), first(3, "v0.1.0", 1)}, 2, "a@v0.3.0 b@v0.2.0"}, {[]bump.Release{first(1, "v0.0.0", 0), first(1, "v9.0.0+x", 9)}, 2, "b@v0.0.0"},
		{[]bump.Release{first(4, "v0.2.0", 1)}, 4, "s@v0.2.0"}, {[]bump.Release{first(5, "v2.0.0", 1)}, 5, ""}, {[]bump.Release{first(5, "v2.0.0", 1), first(2, "v0.7.0", 1)}, 5, "c@v0.7.0"},
		// Places that there are not.
		{[]bump.Release{first(3, "v0.1.0", 1)}, -1, ""}, {[]bump.Release{first(3, "v0.1.0", 1)}, 6, ""}, {[]bump.Release{first(3, "v0.1.0", 1)}, math.MaxInt, ""}, {[]bump.Release{first(3, "v0.1.0", 1)}, math.MinInt, ""},
		{[]bump.Release{first(-1, "v0.1.0", 1), first(6, "v0.1.0", 1), first(math.MaxInt, "v0.1.0", 1), first(math.MinInt, "v0.1.0", 1), first(3, "v0.5.0", 1)}, 2, "a@v0.5.0"},
	} {
		var want []api.Req
		for _, x := range tags(strings.Fields(c.want)...) {
			want = append(want, api.Req{Path: x.Path, Ver: x.Ver})
		}
		if got := bump.Edits(l, c.of, c.at); !slices.Equal(got, want) {
			t.Errorf("case %d: %v, want %s", i, got, c.want)
		}
	}
	// Nobody asks whether modules may be, or versions.
	odd := append(mods("a", "a", "/ a /", "v2 v2 a"), make([]api.Mod, 20)...)
	of := []bump.Release{{At: 1, New: api.Ver{Major: -1}}, {At: 0, New: v("v1.0.0")}, {At: 2}, {At: 23, New: v("v3.0.0")}}
	if got := bump.Edits(odd, of, 2); !slices.Equal(got, []api.Req{{Path: "a", Ver: api.Ver{Major: -1}}, {Path: "/"}}) {
		t.Errorf("%v", got)
	}
	odd[20].Reqs = []api.Req{{Path: "v2"}, {}}
	if got := bump.Edits(odd, of, 20); !slices.Equal(got, []api.Req{{Ver: v("v3.0.0")}}) {
		t.Errorf("%v", got)
	}
	if got := bump.Edits(nil, of, 0); len(got) != 0 {
		t.Errorf("%v", got)
	}
}

// made is modules, some of which depend on others, nobody on himself; and tags of them, in any order.
func made(r *rand.Rand) ([]api.Mod, []api.Tag) {
	n := 1 + r.Intn(api.MaxMods)
	l := make([]api.Mod, n)
	rank := r.Perm(n)
	for i := range l {
		l[i].Path = "m" + strconv.Itoa(i)
		for j := range l {
			if rank[i] > rank[j] && r.Intn(5) == 0 {
				l[i].Reqs = append(l[i].Reqs, api.Req{Path: "m" + strconv.Itoa(j), Ver: v("v0.0.1")})
			}
		}
	}
	var was []api.Tag
	for range r.Intn(2 * n) {
		was = append(was, tags("m"+strconv.Itoa(r.Intn(n))+"@"+[]string{"v0.1.0", "v0.2.0-rc.1", "v0.2.0", "v0.2.0+x", "v0.3.7"}[r.Intn(5)])...)
	}
	return l, was
}

// depends tells, by the chapter's words, whether the module at place i depends on one of those at places.
func depends(l []api.Mod, i int, on []int) bool {
	return slices.ContainsFunc(graph.Edges(l, i), func(j int) bool { return slices.Contains(on, j) || depends(l, j, on) })
}

// P18.3, P18.5: made-up modules; whoever depends on one who is released is, each behind those, no lower than the level asks.
func TestMade(t *testing.T) {
	r := rand.New(rand.NewSource(1))
	for range 5000 {
		l, was := made(r)
		var wants []bump.Want
		from := []int{r.Intn(len(l)), r.Intn(len(l) + 3)}[:r.Intn(3)]
		changed := slices.Clone(from)
		for _, i := range r.Perm(len(l))[:r.Intn(2)] {
			wants = append(wants, bump.Want{Path: l[i].Path, Level: 1 + r.Intn(3)})
			from = append(from, i)
		}
		got, e := bump.Releases(l, was, changed, wants)
		if e != api.OK {
			t.Fatalf("%v, %v: %d", l, was, e)
		}
		order, _ := graph.Order(l)
		var places []int
		for _, i := range order {
			if slices.Contains(from, i) || depends(l, i, from) {
				places = append(places, i)
			}
		}
		if len(got) != len(places) {
			t.Fatalf("%v: %v, want those at %v", l, got, places)
		}
		for n, x := range got {
			level := 1
			if at := slices.IndexFunc(wants, func(w bump.Want) bool { return w.Path == l[x.At].Path }); at >= 0 {
				level = wants[at].Level
			}
			want, e := bump.Next(l[places[n]].Path, was, level)
			if want.At = places[n]; x != want || e != api.OK {
				t.Fatalf("%v, %v: %v, want %v", l, was, x, want)
			}
			follows(t, l, was, got, n)
		}
	}
}

// follows holds the release at place n of got against what follows.
func follows(t *testing.T, l []api.Mod, was []api.Tag, got []bump.Release, n int) {
	t.Helper()
	x := got[n]
	if least, e := ver.Bump(x.Old, x.Level); x.Has && (e != api.OK || x.New != least) {
		t.Fatalf("%v is not %v", x, least)
	}
	for _, old := range was {
		if old.Path == l[x.At].Path && ver.Compare(old.Ver, x.New) >= 0 {
			t.Fatalf("%v is not above %v", x, old)
		}
	}
	for i, m := range l {
		at := slices.IndexFunc(got, func(other bump.Release) bool { return other.At == i })
		if slices.Contains(graph.Edges(l, i), x.At) {
			if at <= n {
				t.Fatalf("%v: %s is not behind %v", got, m.Path, x)
			}
			if edits := bump.Edits(l, got, i); !slices.Contains(edits, api.Req{Path: l[x.At].Path, Ver: x.New}) {
				t.Fatalf("%v: %s has only %v", got, m.Path, edits)
			}
		}
	}
}

// P18.2 to P18.4: as much as there may be of each.
func TestLong(t *testing.T) {
	const many = 200000
	l, was, changed := mods("b a", "a"), tags("a@v1.0.0"), []int{1}
	var of []bump.Release
	for i := range many {
		was = append(was, api.Tag{Path: "b", Ver: api.Ver{Minor: i}})
		changed = append(changed, i)
		of = append(of, bump.Release{At: i, New: api.Ver{Minor: i}})
	}
	got, e := bump.Releases(l, was, changed, nil)
	if want := []bump.Release{again(1, "v1.0.0", "v1.0.1", 1), again(0, "v0.199999.0", "v0.199999.1", 1)}; !slices.Equal(got, want) || e != api.OK {
		t.Errorf("%v, %d", got, e)
	}
	if got, e := bump.Releases(l, was, nil, slices.Repeat([]bump.Want{{"a", 1}}, many)); len(got) != 0 || e != api.ErrTwice {
		t.Errorf("%v, %d", got, e)
	}
	long := make([]api.Mod, many)
	for i := range long {
		long[i].Path = "m" + strconv.Itoa(i)
		long[0].Reqs = append(long[0].Reqs, api.Req{Path: long[i].Path})
	}
	if edits := bump.Edits(long, of, 0); len(edits) != many || edits[many-1] != (api.Req{Path: "m199999", Ver: v("v0.199999.0")}) {
		t.Errorf("%d", len(edits))
	}
}

// R5, R6: what is told is memory of its own, what is handed in stays, and it is the same again.
func TestOwnMemory(t *testing.T) {
	l, was := mods("b a", "a", "c b"), tags("a@v1.0.0")
	changed, wants := append(make([]int, 0, 9), 1, 9), []bump.Want{{"c", 2}, {"b", 3}}
	beyond := changed[:len(changed)+2]
	for range 2 {
		got, e := bump.Releases(l, was, changed, wants)
		if want := []bump.Release{again(1, "v1.0.0", "v1.0.1", 1), first(0, "v0.1.0", 3), first(2, "v0.1.0", 2)}; !slices.Equal(got, want) || e != api.OK {
			t.Fatalf("%v, %d", got, e)
		}
		edits := bump.Edits(l, got, 0)
		if !slices.Equal(edits, []api.Req{{Path: "a", Ver: v("v1.0.1")}}) {
			t.Fatalf("%v", edits)
		}
		clear(got)
		clear(edits)
		if !slices.Equal(beyond, []int{1, 9, 0, 0}) || !slices.Equal(wants, []bump.Want{{"c", 2}, {"b", 3}}) || !slices.Equal(was, tags("a@v1.0.0")) || !slices.EqualFunc(l, mods("b a", "a", "c b"), func(a, b api.Mod) bool {
			return a.Dir == b.Dir && a.Path == b.Path && slices.Equal(a.Reqs, b.Reqs)
		}) {
			t.Fatalf("%v, %v, %v, %v", beyond, wants, was, l)
		}
	}
}
