package mvs_test

import (
	"math/rand"
	"slices"
	"strconv"
	"strings"
	"testing"

	"armada/api"
	"armada/mpath"
	"armada/mvs"
	"armada/ver"
)

// q is the requirement of a path and a version's text, with an `@` between them.
func q(s string) api.Req {
	path, text, _ := strings.Cut(s, "@")
	v, ok := ver.Parse(text)
	if !ok {
		panic(s + " is no requirement")
	}
	return api.Req{Path: path, Ver: v}
}

// reqs are requirements, with blanks between them.
func reqs(s string) []api.Req {
	var l []api.Req
	for _, word := range strings.Fields(s) {
		l = append(l, q(word))
	}
	return l
}

// nodes are nodes: of each the first requirement is its own, the others are what it requires.
func nodes(of ...string) []mvs.Node {
	var l []mvs.Node
	for _, s := range of {
		all := reqs(s)
		l = append(l, mvs.Node{Req: all[0], Reqs: all[1:]})
	}
	return l
}

// show tells requirements as reqs reads them.
func show(l []api.Req) string {
	var words []string
	for _, r := range l {
		words = append(words, r.Path+"@"+ver.Text(r.Ver))
	}
	return strings.Join(words, " ")
}

// wrong are requirements that may not be.
func wrong() []api.Req {
	l := reqs("c@v2.0.0 c/v2@v1.0.0 c/v2@v3.0.0-rc.1 v2@v2.0.0 /@v1.0.0 ex//c@v1.0.0 c/v1@v1.0.0 @v1.0.0")
	for _, v := range []api.Ver{{Major: -1}, {Minor: api.MaxNum + 1}, {Major: 1, Pre: "01"}, {Major: 1, Build: "a b"}, {Patch: -1, Pre: "x"}} {
		l = append(l, api.Req{Path: "c", Ver: v})
	}
	return append(l, api.Req{}, api.Req{Path: "c/v2", Ver: api.Ver{Major: 2, Pre: strings.Repeat("x", 31)}})
}

func may(r api.Req) bool { return ver.Check(r.Ver) && mpath.Fits(r.Path, r.Ver) }

// required is, by the chapter's words, what a requirement's node requires.
func required(r api.Req, l []mvs.Node) []api.Req {
	for _, n := range l {
		if n.Req == r {
			return n.Reqs
		}
	}
	return nil
}

// reached is, by the chapter's words, who is reached.
func reached(root []api.Req, l []mvs.Node) []api.Req {
	var in []api.Req
	from := [][]api.Req{root}
	for i := 0; i < len(from); i++ {
		for _, r := range from[i] {
			if may(r) && !slices.Contains(in, r) {
				in = append(in, r)
				from = append(from, required(r, l))
			}
		}
	}
	return in
}

// list is, by the chapter's words, who is listed.
func list(root []api.Req, l []mvs.Node) []api.Req {
	var paths []string
	all := reached(root, l)
	for _, r := range all {
		paths = append(paths, r.Path)
	}
	slices.Sort(paths)
	var told []api.Req
	for _, p := range slices.Compact(paths) {
		of := slices.DeleteFunc(slices.Clone(all), func(r api.Req) bool { return r.Path != p })
		told = append(told, of[firstGreatest(of)])
	}
	return told
}

// firstGreatest is the place of the first one of the greatest version; l has one at least.
func firstGreatest(l []api.Req) int {
	return slices.IndexFunc(l, func(r api.Req) bool {
		return !slices.ContainsFunc(l, func(other api.Req) bool { return ver.Compare(other.Ver, r.Ver) > 0 })
	})
}

// isOut tells, by the chapter's words, whether a requirement is out.
func isOut(x api.Req, l []mvs.Node, r api.Req) bool {
	return slices.ContainsFunc(list([]api.Req{x}, l), func(got api.Req) bool {
		return got.Path == r.Path && ver.Compare(got.Ver, r.Ver) > 0
	})
}

// downgrade is, by the chapter's words, what is left of root.
func downgrade(root []api.Req, l []mvs.Node, r api.Req) []api.Req {
	if !may(r) {
		return root
	}
	var left []api.Req
	for _, x := range root {
		if !isOut(x, l, r) {
			left = append(left, x)
			continue
		}
		var lower []api.Req
		for _, n := range l {
			if n.Req.Path == x.Path && may(n.Req) && ver.Compare(n.Req.Ver, x.Ver) < 0 && !isOut(n.Req, l, r) {
				lower = append(lower, n.Req)
			}
		}
		if len(lower) > 0 {
			left = append(left, lower[firstGreatest(lower)])
		}
	}
	return left
}

// upgrade is, by the chapter's words, root in which r is asked for.
func upgrade(root []api.Req, r api.Req) []api.Req {
	if !may(r) {
		return root
	}
	for i, x := range root {
		if x.Path != r.Path {
			continue
		}
		if !may(x) || ver.Compare(x.Ver, r.Ver) < 0 {
			return slices.Concat(root[:i], []api.Req{r}, root[i+1:])
		}
		return root
	}
	return slices.Concat(root, []api.Req{r})
}

// fleet is nodes that require one another, in a round too.
func fleet() []mvs.Node {
	return nodes(
		"a@v1.0.0 c@v1.1.0 b@v1.0.0", "a@v1.1.0 c@v1.3.0", "b@v1.0.0 c@v1.2.0", "b@v1.2.0 c@v1.2.0 d/v2@v2.1.0",
		"c@v1.1.0", "c@v1.2.0 d/v2@v2.0.0", "c@v1.3.0 a@v1.0.0", "d/v2@v2.0.0", "d/v2@v2.1.0 b@v1.2.0 d@v0.1.0", "d@v0.1.0 d/v2@v2.0.0",
	)
}

// P17.1: root first, then what each requires, one behind the other, each once.
func TestReached(t *testing.T) {
	for _, c := range []struct{ root, want string }{
		{"", ""}, {"x@v1.0.0", "x@v1.0.0"}, {"c@v1.1.0", "c@v1.1.0"}, {"c@v1.1.0 c@v1.1.0 x@v1.0.0 c@v1.1.0", "c@v1.1.0 x@v1.0.0"},
		{"a@v1.0.0", "a@v1.0.0 c@v1.1.0 b@v1.0.0 c@v1.2.0 d/v2@v2.0.0"},
		{"a@v1.1.0", "a@v1.1.0 c@v1.3.0 a@v1.0.0 c@v1.1.0 b@v1.0.0 c@v1.2.0 d/v2@v2.0.0"},
		{"b@v1.0.0 a@v1.0.0", "b@v1.0.0 a@v1.0.0 c@v1.2.0 c@v1.1.0 d/v2@v2.0.0"},
		{"d/v2@v2.1.0", "d/v2@v2.1.0 b@v1.2.0 d@v0.1.0 c@v1.2.0 d/v2@v2.0.0"},
		{"b@v1.2.0", "b@v1.2.0 c@v1.2.0 d/v2@v2.1.0 d/v2@v2.0.0 d@v0.1.0"},
		// A node is that of just this version.
		{"a@v1.0.0+x b@v1.0.1 c@v1.2.0-rc.1 d/v2@v2.1.0+x", "a@v1.0.0+x b@v1.0.1 c@v1.2.0-rc.1 d/v2@v2.1.0+x"},
		{"c@v1.2.0+x c@v1.2.0", "c@v1.2.0+x c@v1.2.0 d/v2@v2.0.0"},
	} {
		if got := mvs.Reached(reqs(c.root), fleet()); show(got) != c.want {
			t.Errorf("Reached(%s): %s, want %s", c.root, show(got), c.want)
		}
	}
	if got := mvs.Reached(reqs("a@v1.0.0 b@v1.0.0"), nil); show(got) != "a@v1.0.0 b@v1.0.0" {
		t.Errorf("%s", show(got))
	}
}

// P17.1: of several nodes of a requirement the first one counts, empty or not.
func TestFirstNode(t *testing.T) {
	for _, c := range []struct {
		l    []mvs.Node
		want string
	}{
		{nodes("a@v1.0.0 b@v1.0.0", "a@v1.0.0 c@v1.0.0"), "a@v1.0.0 b@v1.0.0"},
		{nodes("a@v1.0.0", "a@v1.0.0 c@v1.0.0"), "a@v1.0.0"},
		{nodes("a@v1.0.0+x c@v1.0.0", "a@v1.0.0-x c@v1.0.0", "a/v2@v2.0.0 c@v1.0.0", "a@v1.0.0 b@v1.0.0", "a@v1.0.0"), "a@v1.0.0 b@v1.0.0"},
		{nodes("a@v1.0.0 a@v1.0.0 b@v1.0.0 b@v1.0.0", "b@v1.0.0 a@v1.0.0"), "a@v1.0.0 b@v1.0.0"},
	} {
		if got := mvs.Reached(reqs("a@v1.0.0"), c.l); show(got) != c.want {
			t.Errorf("Reached by %v: %s, want %s", c.l, show(got), c.want)
		}
	}
}

// P17.1, P17.2: who may not be is not reached, in root or behind, nor is anybody by him.
func TestWrongOnes(t *testing.T) {
	good := q("b@v1.0.0")
	for _, w := range wrong() {
		l := []mvs.Node{{Req: w, Reqs: reqs("x@v1.0.0")}, {Req: good, Reqs: []api.Req{w, q("d@v1.0.0"), w}}}
		if got := mvs.Reached([]api.Req{w, good, w}, l); show(got) != "b@v1.0.0 d@v1.0.0" {
			t.Errorf("%v: Reached: %v", w, got)
		}
		if got := mvs.List([]api.Req{w, good, w}, l); show(got) != "b@v1.0.0 d@v1.0.0" {
			t.Errorf("%v: List: %v", w, got)
		}
		if got := mvs.Reached([]api.Req{w}, l); len(got) != 0 {
			t.Errorf("%v: Reached: %v", w, got)
		}
		if got := mvs.List([]api.Req{w}, l); len(got) != 0 {
			t.Errorf("%v: List: %v", w, got)
		}
	}
}

// P17.2: of each path the greatest version, rising by path.
func TestList(t *testing.T) {
	for _, c := range []struct{ root, want string }{
		{"", ""}, {"x@v1.0.0", "x@v1.0.0"},
		{"a@v1.0.0", "a@v1.0.0 b@v1.0.0 c@v1.2.0 d/v2@v2.0.0"},
		{"c@v1.1.0 a@v1.1.0", "a@v1.1.0 b@v1.0.0 c@v1.3.0 d/v2@v2.0.0"},
		{"d/v2@v2.1.0", "b@v1.2.0 c@v1.2.0 d@v0.1.0 d/v2@v2.1.0"},
		{"b@v1.2.0 b@v1.0.0 z@v1.0.0 B@v1.0.0 b-a@v1.0.0 b/a@v1.0.0", "B@v1.0.0 b@v1.2.0 b-a@v1.0.0 b/a@v1.0.0 c@v1.2.0 d@v0.1.0 d/v2@v2.1.0 z@v1.0.0"},
		{"x@v1.9.0 x@v1.10.0 x@v1.10.0-rc.1", "x@v1.10.0"}, {"x@v0.9.0 x@v1.0.0-0", "x@v1.0.0-0"},
		// Of those that are the same the first one, in the order in which they are reached.
		{"x@v1.0.0+b x@v1.0.0+a x@v1.0.0", "x@v1.0.0+b"}, {"x@v0.1.0 x@v1.0.0+b x@v0.2.0 x@v1.0.0", "x@v1.0.0+b"}, {"a@v1.0.0 c@v1.2.0+x", "a@v1.0.0 b@v1.0.0 c@v1.2.0+x d/v2@v2.0.0"},
		{"x@v2.0.0 x@v1.0.0", "x@v1.0.0"},
	} {
		if got := mvs.List(reqs(c.root), fleet()); show(got) != c.want {
			t.Errorf("List(%s): %s, want %s", c.root, show(got), c.want)
		}
	}
	l := nodes("a@v1.0.0 c@v1.1.0", "b@v1.0.0 c@v1.2.0", "c@v1.2.0", "c@v1.3.0")
	if got := mvs.List(reqs("a@v1.0.0 b@v1.0.0"), l); show(got) != "a@v1.0.0 b@v1.0.0 c@v1.2.0" {
		t.Errorf("%s", show(got))
	}
	if got := mvs.List(reqs("a@v1.0.0"), nodes("a@v1.0.0 z@v1.0.0+1 b@v1.0.0", "b@v1.0.0 z@v1.0.0+2 z@v1.0.0")); show(got) != "a@v1.0.0 b@v1.0.0 z@v1.0.0+1" {
		t.Errorf("%s", show(got))
	}
}

// P17.3: the first one of the path is judged, no other one.
func TestUpgrade(t *testing.T) {
	for _, c := range []struct{ root, r, want string }{
		{"", "c@v1.0.0", "c@v1.0.0"}, {"a@v1.0.0 b@v1.0.0", "c@v1.0.0", "a@v1.0.0 b@v1.0.0 c@v1.0.0"}, {"c/v2@v2.0.0 C@v1.0.0 c/c@v1.0.0", "c@v1.0.0", "c/v2@v2.0.0 C@v1.0.0 c/c@v1.0.0 c@v1.0.0"},
		{"a@v1.0.0 c@v1.0.0 b@v1.0.0", "c@v1.1.0", "a@v1.0.0 c@v1.1.0 b@v1.0.0"}, {"c@v1.0.0", "c@v1.0.0", "c@v1.0.0"}, {"c@v1.1.0 b@v1.0.0", "c@v1.0.0", "c@v1.1.0 b@v1.0.0"},
		{"c@v1.0.0-rc.1", "c@v1.0.0", "c@v1.0.0"}, {"c@v1.0.0", "c@v1.0.0-rc.1", "c@v1.0.0"}, {"c@v1.9.0", "c@v1.10.0", "c@v1.10.0"}, {"c/v2@v2.0.0", "c/v2@v2.0.1", "c/v2@v2.0.1"},
		// Build is of no moment.
		{"c@v1.0.0+a", "c@v1.0.0+b", "c@v1.0.0+a"}, {"c@v1.0.0", "c@v1.0.0+b", "c@v1.0.0"}, {"c@v1.0.0+a", "c@v1.0.1+b", "c@v1.0.1+b"},
		{"c@v1.0.0 c@v1.0.0", "c@v1.1.0", "c@v1.1.0 c@v1.0.0"}, {"c@v1.0.0 c@v1.5.0", "c@v1.1.0", "c@v1.1.0 c@v1.5.0"}, {"c@v1.5.0 c@v1.0.0", "c@v1.1.0", "c@v1.5.0 c@v1.0.0"},
		// Who stands there may not be; who is asked for may not be.
		{"a@v1.0.0 c@v2.0.0 c@v1.5.0", "c@v1.1.0", "a@v1.0.0 c@v1.1.0 c@v1.5.0"}, {"c/v2@v1.0.0", "c/v2@v2.0.0", "c/v2@v2.0.0"}, {"c/v2@v3.0.0", "c/v2@v2.0.0", "c/v2@v2.0.0"},
		{"c@v1.0.0 v2@v0.1.0", "c@v2.0.0", "c@v1.0.0 v2@v0.1.0"}, {"v2@v2.0.0", "v2@v2.1.0", "v2@v2.0.0"}, {"c@v1.5.0 c@v2.0.0", "c@v1.6.0", "c@v1.6.0 c@v2.0.0"}, {"c@v1.5.0 c@v2.0.0", "c@v1.4.0", "c@v1.5.0 c@v2.0.0"},
	} {
		if got := mvs.Upgrade(reqs(c.root), q(c.r)); !slices.Equal(got, reqs(c.want)) {
			t.Errorf("Upgrade(%s, %s): %v", c.root, c.r, got)
		}
	}
	for _, w := range wrong() {
		for _, root := range [][]api.Req{nil, reqs("a@v1.0.0 c@v0.1.0"), {w}, {q("a@v1.0.0"), w}} {
			if got := mvs.Upgrade(root, w); !slices.Equal(got, root) {
				t.Errorf("Upgrade(%v, %v): %v", root, w, got)
			}
		}
		if r := (api.Req{Path: "c", Ver: api.Ver{Minor: 1}}); w.Path == r.Path {
			if got := mvs.Upgrade([]api.Req{q("a@v1.0.0"), w, w}, r); !slices.Equal(got, []api.Req{q("a@v1.0.0"), r, w}) {
				t.Errorf("Upgrade of %v: %v", w, got)
			}
		}
	}
}

// P17.4: each who is out is lowered as little as it takes, or left out.
func TestDowngrade(t *testing.T) {
	l := nodes(
		"a@v1.3.0 c@v1.3.0", "a@v1.1.0+x c@v1.1.0", "a@v1.1.0+y", "a@v1.0.0", "a@v1.2.0 b@v1.2.0", "a@v1.1.0 c@v1.3.0", "a@v0.9.0 c@v1.3.0",
		"b@v1.0.0 c@v1.3.0", "b@v1.2.0 a@v1.3.0", "c@v1.1.0", "c@v1.2.0", "c@v1.3.0 c@v1.0.0", "c@v2.0.0", "d@v1.1.0 c@v2.0.0", "d@v1.0.0 e@v2.0.0", "e@v2.0.0 c@v1.3.0", "d@v2.0.0",
	)
	for _, c := range []struct{ root, r, want string }{
		{"", "c@v1.2.0", ""}, {"x@v1.0.0 y@v1.0.0", "c@v1.2.0", "x@v1.0.0 y@v1.0.0"}, {"a@v1.0.0 c@v1.2.0", "c@v1.2.0", "a@v1.0.0 c@v1.2.0"}, {"a@v1.3.0", "c@v1.3.0", "a@v1.3.0"}, {"a@v1.3.0", "c@v1.4.0", "a@v1.3.0"},
		// c itself, and whoever asks for it; a v1.2.0 does by b and a again.
		{"c@v1.3.0", "c@v1.2.0", "c@v1.2.0"}, {"c@v1.3.0", "c@v1.1.5", "c@v1.1.0"}, {"c@v1.3.0", "c@v1.0.0", ""}, {"c@v1.4.0", "c@v1.3.0", "c@v1.3.0"}, {"c@v1.4.0+x", "c@v1.4.0-rc.1", "c@v1.3.0"}, {"c@v1.3.0+x", "c@v1.3.0", "c@v1.3.0+x"},
		{"a@v1.3.0", "c@v1.2.0", "a@v1.1.0+x"}, {"a@v1.2.0", "c@v1.2.0", "a@v1.1.0+x"}, {"a@v1.3.0", "c@v1.0.0", "a@v1.1.0+y"}, {"a@v1.1.0", "c@v1.2.0", "a@v1.0.0"}, {"a@v1.1.0+x", "c@v1.0.0", "a@v1.0.0"}, {"a@v0.9.0", "c@v1.2.0", ""},
		{"b@v1.2.0 x@v1.0.0 a@v1.3.0", "c@v1.2.0", "x@v1.0.0 a@v1.1.0+x"}, {"b@v1.0.0", "c@v1.3.0", "b@v1.0.0"}, {"a@v1.3.0 a@v1.0.0 a@v1.2.0 a@v1.3.0", "c@v1.1.0", "a@v1.1.0+x a@v1.0.0 a@v1.1.0+x a@v1.1.0+x"},
		// Who may not be is never out, asks for nothing, and nobody is lowered to him.
		{"c@v2.0.0 d@v1.1.0 d@v1.0.0 e@v2.0.0", "c@v1.2.0", "c@v2.0.0 d@v1.1.0 d@v1.0.0 e@v2.0.0"}, {"c@v2.0.0 a@v1.0.0", "c@v0.1.0", "c@v2.0.0 a@v1.0.0"},
		// A version that has no node is none to be lowered to, though root asks for it.
		{"c@v1.3.0 c@v1.2.5", "c@v1.2.7", "c@v1.2.0 c@v1.2.5"},
		// Nobody of another path is meant.
		{"c/v2@v2.0.0 c/c@v1.9.0", "c@v0.1.0", "c/v2@v2.0.0 c/c@v1.9.0"}, {"a@v1.3.0", "x@v0.0.0", "a@v1.3.0"}, {"a@v1.3.0", "a@v1.2.0", "a@v1.1.0+x"}, {"a@v1.3.0 b@v1.2.0", "b@v1.1.0", "a@v1.3.0 b@v1.0.0"},
		// An r that may not be.
		{"c@v1.3.0 a@v1.3.0", "c@v2.0.0", "c@v1.3.0 a@v1.3.0"}, {"c@v1.3.0 c@v2.0.0", "v2@v0.1.0", "c@v1.3.0 c@v2.0.0"}, {"c/v2@v2.0.0 c/v2@v2.1.0", "c/v2@v1.0.0", "c/v2@v2.0.0 c/v2@v2.1.0"},
	} {
		if got := mvs.Downgrade(reqs(c.root), l, q(c.r)); !slices.Equal(got, reqs(c.want)) {
			t.Errorf("Downgrade(%s, %s): %v, want %s", c.root, c.r, got, c.want)
		}
		if got := downgrade(reqs(c.root), l, q(c.r)); !slices.Equal(got, reqs(c.want)) {
			t.Errorf("by the words: Downgrade(%s, %s): %v, want %s", c.root, c.r, got, c.want)
		}
	}
	for _, w := range wrong() {
		if got := mvs.Downgrade(reqs("c@v1.3.0 a@v1.3.0"), l, w); show(got) != "c@v1.3.0 a@v1.3.0" {
			t.Errorf("Downgrade to %v: %v", w, got)
		}
		root := []api.Req{w, q("c@v1.3.0"), w}
		if got := mvs.Downgrade(root, append(slices.Clone(l), mvs.Node{Req: w, Reqs: reqs("c@v1.3.0")}), q("c@v0.0.1")); !slices.Equal(got, []api.Req{w, w}) {
			t.Errorf("Downgrade of %v: %v", w, got)
		}
	}
}

// P17.4: of several nodes of a requirement the first one says whether it is out.
func TestDowngradeByFirstNode(t *testing.T) {
	for _, c := range []struct {
		l    []mvs.Node
		want string
	}{
		{nodes("a@v1.0.0", "a@v1.0.0 c@v1.1.0", "a@v0.1.0"), "a@v1.0.0"},
		{nodes("a@v1.0.0 c@v1.1.0", "a@v1.0.0", "a@v0.1.0"), "a@v0.1.0"},
		{nodes("a@v1.0.0 c@v1.1.0", "a@v0.1.0 c@v1.1.0", "a@v0.1.0", "a@v0.0.1", "a@v0.0.1+x"), "a@v0.0.1"},
		{nodes("a@v1.0.0 c@v1.1.0", "a@v0.1.0+x c@v1.1.0", "a@v0.1.0+y", "a@v0.1.0"), "a@v0.1.0+y"},
	} {
		if got := mvs.Downgrade(reqs("a@v1.0.0"), c.l, q("c@v1.0.0")); show(got) != c.want {
			t.Errorf("Downgrade by %v: %s, want %s", c.l, show(got), c.want)
		}
	}
}

// made is a requirement of a few paths and versions, now and then one that may not be.
func made(r *rand.Rand) api.Req {
	p := []string{"a", "b", "c", "ex/c", "c/v2"}[r.Intn(5)]
	x := q(p + "@" + []string{"v0.1.0", "v1.0.0-rc.1", "v1.0.0", "v1.0.0+x", "v1.0.0+y", "v1.2.0"}[r.Intn(6)])
	if p == "c/v2" {
		x.Ver.Major = 2
	}
	switch r.Intn(30) {
	case 0:
		x.Ver.Major++
	case 1:
		x.Path += "/v02"
	case 2:
		x.Ver.Minor = -1
	}
	return x
}

// madeReqs is up to n requirements.
func madeReqs(r *rand.Rand, n int) []api.Req {
	var l []api.Req
	for range r.Intn(n + 1) {
		l = append(l, made(r))
	}
	return l
}

func madeNodes(r *rand.Rand) []mvs.Node {
	var l []mvs.Node
	for range r.Intn(20) {
		l = append(l, mvs.Node{Req: made(r), Reqs: madeReqs(r, 3)})
	}
	return l
}

// find is the one of a path.
func find(l []api.Req, path string) api.Req {
	return l[slices.IndexFunc(l, func(r api.Req) bool { return r.Path == path })]
}

// P17.1 to P17.4: made-up requirements, held against the chapter's words.
func TestMade(t *testing.T) {
	r := rand.New(rand.NewSource(1))
	lowered, gone := 0, 0
	for range 20000 {
		root, l, x := madeReqs(r, 4), madeNodes(r), made(r)
		if got := mvs.Reached(root, l); !slices.Equal(got, reached(root, l)) {
			t.Fatalf("Reached(%v, %v): %v", root, l, got)
		}
		if got := mvs.List(root, l); !slices.Equal(got, list(root, l)) {
			t.Fatalf("List(%v, %v): %v", root, l, got)
		}
		if got := mvs.Upgrade(root, x); !slices.Equal(got, upgrade(root, x)) {
			t.Fatalf("Upgrade(%v, %v): %v", root, x, got)
		}
		got, want := mvs.Downgrade(root, l, x), downgrade(root, l, x)
		if !slices.Equal(got, want) {
			t.Fatalf("Downgrade(%v, %v, %v): %v, want %v", root, l, x, got, want)
		}
		switch {
		case len(want) < len(root):
			gone++
		case !slices.Equal(want, root):
			lowered++
		}
	}
	if lowered < 500 || gone < 500 {
		t.Errorf("only %d lowered, %d gone", lowered, gone)
	}
}

// P17.5: what follows.
func TestFollows(t *testing.T) {
	r := rand.New(rand.NewSource(2))
	for range 20000 {
		root, l, x := madeReqs(r, 4), madeNodes(r), made(r)
		all, told := mvs.Reached(root, l), mvs.List(root, l)
		for _, asked := range all {
			if ver.Compare(find(told, asked.Path).Ver, asked.Ver) < 0 {
				t.Fatalf("List(%v, %v): %v, below %v", root, l, told, asked)
			}
		}
		for _, one := range told {
			if !slices.Contains(all, one) {
				t.Fatalf("List(%v, %v): nobody asks for %v", root, l, one)
			}
		}
		if !may(x) {
			continue
		}
		for _, one := range mvs.List(mvs.Downgrade(root, l, x), l) {
			if one.Path == x.Path && ver.Compare(one.Ver, x.Ver) > 0 {
				t.Fatalf("Downgrade(%v, %v, %v): %v is listed", root, l, x, one)
			}
		}
		var own []api.Req
		for _, one := range root {
			if may(one) && !slices.ContainsFunc(own, func(other api.Req) bool { return other.Path == one.Path }) {
				own = append(own, one)
			}
		}
		told = mvs.List(mvs.Upgrade(own, x), l)
		for _, one := range append(own, x) {
			if ver.Compare(find(told, one.Path).Ver, one.Ver) < 0 {
				t.Fatalf("Upgrade(%v, %v) by %v: %v", own, x, l, told)
			}
		}
	}
}

// P17.1 to P17.4: long chains, many versions of a path, and many who ask for them.
func TestLong(t *testing.T) {
	const many = 30000
	var chain []mvs.Node
	var versions []api.Req
	for i := range many {
		here, next := api.Req{Path: "m" + strconv.Itoa(i), Ver: api.Ver{Major: 1}}, api.Req{Path: "m" + strconv.Itoa(i+1), Ver: api.Ver{Major: 1}}
		chain = append(chain, mvs.Node{Req: here, Reqs: []api.Req{next}})
		versions = append(versions, api.Req{Path: "c", Ver: api.Ver{Major: 1, Minor: i}})
	}
	root := []api.Req{chain[0].Req}
	if got := mvs.Reached(root, chain); len(got) != many+1 || got[many].Path != "m"+strconv.Itoa(many) {
		t.Fatalf("%d are reached", len(got))
	}
	if got := mvs.List(root, chain); len(got) != many+1 {
		t.Fatalf("%d are listed", len(got))
	}
	end := api.Req{Path: "m" + strconv.Itoa(many), Ver: api.Ver{Minor: 1}}
	if got := mvs.Downgrade([]api.Req{chain[0].Req, chain[many-1].Req}, chain, end); len(got) != 0 {
		t.Fatalf("%v are left", got)
	}
	var l []mvs.Node
	for _, v := range versions {
		l = append(l, mvs.Node{Req: v})
	}
	got := mvs.Downgrade(versions, l, versions[many/2])
	if len(got) != many || got[0] != versions[0] || got[many/2] != versions[many/2] || got[many/2+1] != versions[many/2] || got[many-1] != versions[many/2] {
		t.Fatalf("%d are left", len(got))
	}
	if got := mvs.List(versions, l); !slices.Equal(got, versions[many-1:]) {
		t.Fatalf("%v", got)
	}
}

// R5, R6: what is told is memory of its own, what is handed in stays, and it is the same again.
func TestOwnMemory(t *testing.T) {
	const text = "a@v1.1.0 c@v1.3.0 b@v1.0.0"
	spare := append(make([]api.Req, 0, 9), reqs(text)...)
	beyond := spare[:len(spare)+1]
	l := fleet()
	for range 2 {
		for _, c := range []struct {
			got  []api.Req
			want string
		}{
			{mvs.Reached(spare, l), "a@v1.1.0 c@v1.3.0 b@v1.0.0 a@v1.0.0 c@v1.2.0 c@v1.1.0 d/v2@v2.0.0"},
			{mvs.List(spare, l), "a@v1.1.0 b@v1.0.0 c@v1.3.0 d/v2@v2.0.0"},
			{mvs.Upgrade(spare, q("c@v1.4.0")), "a@v1.1.0 c@v1.4.0 b@v1.0.0"},
			{mvs.Upgrade(spare, q("c@v1.1.0")), text},
			{mvs.Upgrade(spare, q("c@v2.0.0")), text},
			{mvs.Upgrade(spare, q("x@v1.0.0")), text + " x@v1.0.0"},
			{mvs.Downgrade(spare, l, q("c@v1.2.0")), "a@v1.0.0 c@v1.2.0 b@v1.0.0"},
			{mvs.Downgrade(spare, l, q("c@v1.9.0")), text},
			{mvs.Downgrade(spare, l, q("c@v2.0.0")), text},
		} {
			if show(c.got) != c.want {
				t.Fatalf("%s, want %s", show(c.got), c.want)
			}
			clear(c.got)
			if show(spare) != text || beyond[len(spare)] != (api.Req{}) {
				t.Fatalf("%v", beyond)
			}
		}
		for i, n := range fleet() {
			if l[i].Req != n.Req || !slices.Equal(l[i].Reqs, n.Reqs) {
				t.Fatalf("%v", l[i])
			}
		}
	}
}
