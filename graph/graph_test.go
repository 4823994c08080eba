package graph_test

import (
	"math"
	"math/rand"
	"slices"
	"strconv"
	"strings"
	"testing"

	"armada/api"
	"armada/graph"
)

// mods are modules, each by its path and those that it requires.
func mods(of ...string) []api.Mod {
	var l []api.Mod
	for _, s := range of {
		words := strings.Fields(s)
		m := api.Mod{Dir: "dir of " + words[0], Path: words[0]}
		for _, p := range words[1:] {
			m.Reqs = append(m.Reqs, api.Req{Path: p, Ver: api.Ver{Major: len(m.Reqs)}})
		}
		l = append(l, m)
	}
	return l
}

// requires is who requires whom, place by place.
type requires [][]bool

// all are the modules of which requires tells who requires whom, each requirement once, the last one first.
func (r requires) all() []api.Mod {
	l := make([]api.Mod, len(r))
	for i := range r {
		l[i].Path = "m" + strconv.Itoa(i)
		for j := len(r) - 1; j >= 0; j-- {
			if r[i][j] {
				l[i].Reqs = append(l[i].Reqs, api.Req{Path: "m" + strconv.Itoa(j)})
			}
		}
	}
	return l
}

// depends is who depends on whom: who requires him, or somebody who depends on him.
func (r requires) depends() requires {
	var d requires
	for _, row := range r {
		d = append(d, slices.Clone(row))
	}
	for k := range d {
		for i := range d {
			for j := range d {
				d[i][j] = d[i][j] || d[i][k] && d[k][j]
			}
		}
	}
	return d
}

// places are those of which is holds.
func places(n int, is func(int) bool) []int {
	var l []int
	for i := range n {
		if is(i) {
			l = append(l, i)
		}
	}
	return l
}

// order is, by the chapter's words, the order of modules nobody of whom depends on himself.
func (r requires) order() []int {
	var l []int
	for range r {
		free := places(len(r), func(i int) bool {
			return !slices.Contains(l, i) && len(places(len(r), func(j int) bool { return r[i][j] && !slices.Contains(l, j) })) == 0
		})
		l = append(l, free[0])
	}
	return l
}

// look holds all that is told of r's modules against the chapter's words.
func look(t *testing.T, r requires, from []int) {
	t.Helper()
	l, d := r.all(), r.depends()
	n := len(l)
	if e := graph.Check(l); e != api.OK {
		t.Fatalf("%v: Check: %d", l, e)
	}
	for i := range l {
		if got := graph.Edges(l, i); !slices.Equal(got, places(n, func(j int) bool { return r[i][j] })) {
			t.Fatalf("%v: Edges of %d: %v", l, i, got)
		}
	}
	cyclic := places(n, func(i int) bool { return d[i][i] })
	if got := graph.Cyclic(l); !slices.Equal(got, cyclic) {
		t.Fatalf("%v: Cyclic: %v, want %v", l, got, cyclic)
	}
	var order []int
	want := api.ErrCycle
	if len(cyclic) == 0 {
		order, want = r.order(), api.OK
	}
	if got, e := graph.Order(l); e != want || !slices.Equal(got, order) {
		t.Fatalf("%v: Order: %v, %d, want %v, %d", l, got, e, order, want)
	}
	up := places(n, func(i int) bool {
		return slices.Contains(from, i) || slices.ContainsFunc(from, func(j int) bool { return j < n && d[i][j] })
	})
	if got := graph.Up(l, from); !slices.Equal(got, up) {
		t.Fatalf("%v: Up of %v: %v, want %v", l, from, got, up)
	}
}

// P16.1: what holds first.
func TestCheck(t *testing.T) {
	var most, more []string
	for i := range api.MaxMods {
		most = append(most, "m"+strconv.Itoa(i))
	}
	more = append(most, "x")
	for i, c := range []struct {
		l    []api.Mod
		want api.Errno
	}{
		{nil, api.OK}, {[]api.Mod{}, api.OK}, {mods("a"), api.OK}, {mods(most...), api.OK}, {mods("a", "b", "a/b", "A", "a/v2", "a/v3", "aa"), api.OK},
		{mods(more...), api.ErrArg}, {mods(append(more, "x")...), api.ErrArg}, {mods(append(more, "/")...), api.ErrArg}, {make([]api.Mod, api.MaxMods+1), api.ErrArg}, {make([]api.Mod, 1000), api.ErrArg},
		{mods("v2"), api.ErrPath}, {mods("/"), api.ErrPath}, {make([]api.Mod, 1), api.ErrPath}, {make([]api.Mod, api.MaxMods), api.ErrPath}, {mods("a", "b", "a/v1"), api.ErrPath}, {mods("a/v2/b", "b"), api.ErrPath}, {mods("a", strings.Repeat("x", 61)), api.ErrPath}, {mods("a", "a", "/"), api.ErrPath}, {mods("/", "a", "a"), api.ErrPath}, {mods("//", "//"), api.ErrPath},
		{mods("a", "a"), api.ErrTwice}, {mods("a", "b", "a"), api.ErrTwice}, {mods("b", "c", "a", "a"), api.ErrTwice}, {mods("a/v2", "a", "a/v2"), api.ErrTwice}, {mods("a", "a", "a"), api.ErrTwice}, {mods(append(most[1:], "m5")...), api.ErrTwice},
		// A directory is of no moment, nor what is required: its path, its version, or how often.
		{[]api.Mod{{Path: "a"}, {Path: "b"}}, api.OK}, {[]api.Mod{{Dir: "//", Path: "a"}, {Dir: "//", Path: "b"}}, api.OK}, {mods("a // v2 a a", "b b none"), api.OK}, {[]api.Mod{{Path: "a", Reqs: make([]api.Req, 100)}}, api.OK}, {[]api.Mod{{Dir: "a", Path: "x"}, {Dir: "b", Path: "x"}}, api.ErrTwice},
	} {
		if got := graph.Check(c.l); got != c.want {
			t.Errorf("case %d: Check(%v): %d, want %d", i, c.l, got, c.want)
		}
	}
}

// P16.1: those whom a module requires, each once, rising; no module that is none of the list.
func TestEdges(t *testing.T) {
	l := mods("ex/c", "ex/a ex/c ex/b ex/none", "ex/b ex/b", "ex/a/v2 ex/a ex/c ex/a ex/c", "ex/d EX/A ex/ ex ex/a/v3 // ex/c/", "ex/e ex/e ex/d ex/a/v2 ex/b ex/a ex/c")
	for i, want := range [][]int{nil, {0, 2}, {2}, {0, 1}, nil, {0, 1, 2, 3, 4, 5}} {
		if got := graph.Edges(l, i); !slices.Equal(got, want) {
			t.Errorf("Edges of %d: %v, want %v", i, got, want)
		}
	}
	for _, i := range []int{-1, 6, 7, 11, 12, 13, 100, math.MaxInt, math.MinInt} {
		if got := graph.Edges(l, i); len(got) != 0 {
			t.Errorf("Edges of %d: %v", i, got)
		}
	}
	if got := graph.Edges(nil, 0); len(got) != 0 {
		t.Errorf("%v", got)
	}
	// A requirement's version is of no moment.
	l = []api.Mod{{Path: "a", Reqs: []api.Req{{Path: "b/v2", Ver: api.Ver{Major: 9}}, {Path: "c", Ver: api.Ver{Major: -1, Pre: " "}}}}, {Path: "b/v2"}, {Path: "c"}}
	if got := graph.Edges(l, 0); !slices.Equal(got, []int{1, 2}) {
		t.Errorf("%v", got)
	}
}

// P16.1 to P16.3: of a list that may not be there is nothing, and Order tells Check's error.
func TestWrongLists(t *testing.T) {
	var more []string
	for i := range api.MaxMods + 1 {
		more = append(more, "m"+strconv.Itoa(i)+" m0 m1")
	}
	for _, l := range [][]api.Mod{mods(more...), mods("a a", "/ a"), mods("a a", "b a", "a b"), mods("b", "v2 b"), mods("b a", "a", "a"), make([]api.Mod, 50)} {
		e := graph.Check(l)
		if e == api.OK {
			t.Fatalf("%v may be", l)
		}
		for i := range l {
			if got := graph.Edges(l, i); len(got) != 0 {
				t.Errorf("%v: Edges of %d: %v", l, i, got)
			}
		}
		if got, is := graph.Order(l); len(got) != 0 || is != e {
			t.Errorf("%v: Order: %v, %d", l, got, is)
		}
		if got := graph.Cyclic(l); len(got) != 0 {
			t.Errorf("%v: Cyclic: %v", l, got)
		}
		if got := graph.Up(l, []int{0, 1}); len(got) != 0 {
			t.Errorf("%v: Up: %v", l, got)
		}
	}
}

// P16.2: ordinary lists, and whose members depend on themselves.
func TestOrder(t *testing.T) {
	for i, c := range []struct {
		l      []api.Mod
		cyclic []int
		order  []int
	}{
		{nil, nil, nil}, {mods("a"), nil, []int{0}}, {mods("a", "b a"), nil, []int{0, 1}}, {mods("b a", "a"), nil, []int{1, 0}}, {mods("c", "b", "a"), nil, []int{0, 1, 2}},
		{mods("c b", "b a", "a"), nil, []int{2, 1, 0}}, {mods("d b c", "b a", "c a", "a"), nil, []int{3, 1, 2, 0}}, {mods("d b c", "c a", "b a", "a"), nil, []int{3, 1, 2, 0}},
		// Each time the least one: c may stand as soon as b does, ahead of d.
		{mods("c b", "b", "d"), nil, []int{1, 0, 2}}, {mods("e d", "c b", "b", "d"), nil, []int{2, 1, 3, 0}}, {mods("z a", "a", "y z", "b"), nil, []int{1, 0, 2, 3}},
		{mods("a none b/v2", "b a"), nil, []int{0, 1}},
		{mods("a a"), []int{0}, nil}, {mods("a", "b b"), []int{1}, nil}, {mods("a b", "b a"), []int{0, 1}, nil}, {mods("a b", "b c", "c a"), []int{0, 1, 2}, nil},
		// Who depends on such ones, or is required by them, is none of them.
		{mods("a b", "b c", "c b"), []int{1, 2}, nil}, {mods("a", "b a c", "c b"), []int{1, 2}, nil}, {mods("a b", "b b"), []int{1}, nil}, {mods("a a b", "b"), []int{0}, nil}, {mods("a b", "b a c", "c", "d e", "e d", "f a"), []int{0, 1, 3, 4}, nil}, {mods("a b c", "b a", "c d", "d c a"), []int{0, 1, 2, 3}, nil},
	} {
		want := api.OK
		if len(c.cyclic) > 0 {
			want = api.ErrCycle
		}
		if got, e := graph.Order(c.l); e != want || !slices.Equal(got, c.order) {
			t.Errorf("case %d: Order(%v): %v, %d", i, c.l, got, e)
		}
		if got := graph.Cyclic(c.l); !slices.Equal(got, c.cyclic) {
			t.Errorf("case %d: Cyclic(%v): %v", i, c.l, got)
		}
	}
}

// P16.2, P16.3: a chain, and a ring, of as many as there may be.
func TestMostMods(t *testing.T) {
	chain := make(requires, api.MaxMods)
	var back []int
	for i := range chain {
		chain[i] = make([]bool, api.MaxMods)
		if i+1 < api.MaxMods {
			chain[i][i+1] = true
		}
		back = append(back, api.MaxMods-1-i)
	}
	if got, e := graph.Order(chain.all()); e != api.OK || !slices.Equal(got, back) {
		t.Errorf("%v, %d", got, e)
	}
	look(t, chain, []int{api.MaxMods - 1})
	look(t, chain, []int{0})
	look(t, chain, []int{5, 3})
	chain[api.MaxMods-1][0] = true
	look(t, chain, []int{7})
	for i := range chain {
		for j := range chain {
			chain[i][j] = true
		}
	}
	look(t, chain, []int{2})
}

// P16.3: the places, and those above; each once, rising.
func TestUp(t *testing.T) {
	l := mods("a", "b a", "c b", "d", "e d a", "f f", "g h", "h g")
	for _, c := range []struct{ from, want []int }{
		{nil, nil}, {[]int{}, nil}, {[]int{0}, []int{0, 1, 2, 4}}, {[]int{1}, []int{1, 2}}, {[]int{2}, []int{2}}, {[]int{3}, []int{3, 4}}, {[]int{4}, []int{4}}, {[]int{5}, []int{5}}, {[]int{6}, []int{6, 7}}, {[]int{7}, []int{6, 7}},
		{[]int{4, 2}, []int{2, 4}}, {[]int{2, 1, 2, 1}, []int{1, 2}}, {[]int{3, 1}, []int{1, 2, 3, 4}}, {[]int{1, 0}, []int{0, 1, 2, 4}}, {[]int{2, 0}, []int{0, 1, 2, 4}}, {[]int{7, 6, 5, 4, 3, 2, 1, 0}, []int{0, 1, 2, 3, 4, 5, 6, 7}},
		{[]int{-1}, nil}, {[]int{8}, nil}, {[]int{-1, 8, 11, 12, 13, 1000, math.MaxInt, math.MinInt}, nil}, {[]int{8, 2, -1}, []int{2}}, {[]int{math.MaxInt, 3, math.MinInt, 3}, []int{3, 4}},
	} {
		if got := graph.Up(l, c.from); !slices.Equal(got, c.want) {
			t.Errorf("Up of %v: %v, want %v", c.from, got, c.want)
		}
	}
	if got := graph.Up(nil, []int{0}); len(got) != 0 {
		t.Errorf("%v", got)
	}
	if got := graph.Up(l, slices.Repeat([]int{9, 2, -3}, 100000)); !slices.Equal(got, []int{2}) {
		t.Errorf("%v", got)
	}
}

// P16.1 to P16.4: all who may require whom, of up to four modules.
func TestAllSmall(t *testing.T) {
	for n := range 5 {
		for bits := range 1 << (n * n) {
			r := make(requires, n)
			for i := range r {
				r[i] = make([]bool, n)
				for j := range r[i] {
					r[i][j] = bits>>(i*n+j)&1 == 1
				}
			}
			look(t, r, places(n, func(i int) bool { return bits*7919>>i&1 == 1 }))
		}
	}
}

// P16.1 to P16.4: made-up lists, of as many modules as there may be; some of them without a cycle.
func TestMade(t *testing.T) {
	rnd := rand.New(rand.NewSource(1))
	good := 0
	for round := range 20000 {
		n := 1 + rnd.Intn(api.MaxMods)
		r := make(requires, n)
		for i := range r {
			r[i] = make([]bool, n)
		}
		rank := rnd.Perm(n)
		for range rnd.Intn(2 * n) {
			if i, j := rnd.Intn(n), rnd.Intn(n); round%2 == 0 || rank[i] > rank[j] {
				r[i][j] = true
			}
		}
		look(t, r, []int{rnd.Intn(n), rnd.Intn(n + 2)})
		if order, e := graph.Order(r.all()); e == api.OK {
			good++
			// An order has all, each behind those whom it requires.
			for at, i := range order {
				if slices.ContainsFunc(graph.Edges(r.all(), i), func(j int) bool { return !slices.Contains(order[:at], j) }) {
					t.Fatalf("%v: %v", r.all(), order)
				}
			}
			if all := slices.Sorted(slices.Values(order)); !slices.Equal(all, places(n, func(int) bool { return true })) {
				t.Fatalf("%v: %v", r.all(), order)
			}
		}
	}
	if good < 10000 {
		t.Errorf("only %d have an order", good)
	}
}

// R5, R6: what is told is memory of its own, what is handed in stays, and it is the same again.
func TestOwnMemory(t *testing.T) {
	l, from := mods("c b", "b a", "a"), []int{2, 1, 9}
	for range 2 {
		edges, up, cyclic := graph.Edges(l, 0), graph.Up(l, from), graph.Cyclic(mods("a a"))
		order, e := graph.Order(l)
		if e != api.OK || !slices.Equal(order, []int{2, 1, 0}) || !slices.Equal(edges, []int{1}) || !slices.Equal(up, []int{0, 1, 2}) || !slices.Equal(cyclic, []int{0}) {
			t.Fatalf("%v, %v, %v, %v, %d", edges, up, cyclic, order, e)
		}
		for _, got := range [][]int{edges, up, cyclic, order} {
			for i := range got {
				got[i] = 7
			}
		}
		if !slices.Equal(from, []int{2, 1, 9}) || !slices.EqualFunc(l, mods("c b", "b a", "a"), func(a, b api.Mod) bool {
			return a.Dir == b.Dir && a.Path == b.Path && slices.Equal(a.Reqs, b.Reqs)
		}) {
			t.Fatalf("%v, %v", l, from)
		}
	}
}
