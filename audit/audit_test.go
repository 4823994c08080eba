package audit_test

import (
	"math/rand"
	"slices"
	"strconv"
	"strings"
	"testing"

	"armada/api"
	"armada/audit"
	"armada/bump"
	"armada/files"
	"armada/ledger"
	"armada/plan"
	"armada/stage"
	"armada/tree"
	"armada/ver"
)

// v is the version of a text that has one.
func v(s string) api.Ver {
	got, ok := ver.Parse(s)
	if !ok {
		panic(s + " is no version")
	}
	return got
}

// fleet is files by their paths.
type fleet map[string]string

// list is them in the order of their paths.
func (f fleet) list() []api.File {
	var l []api.File
	for path, data := range f {
		l = append(l, api.File{Path: path, Data: data})
	}
	slices.SortFunc(l, func(a, b api.File) int { return strings.Compare(a.Path, b.Path) })
	return l
}

// but is f, in which each path ahead of an `=` has the bytes behind it; a path without an `=` is gone.
func (f fleet) but(texts ...string) fleet {
	own := fleet{}
	for path, data := range f {
		own[path] = data
	}
	for _, s := range texts {
		path, data, has := strings.Cut(s, "=")
		if own[path] = data; !has {
			delete(own, path)
		}
	}
	return own
}

// tagged is f, in whose ledger there stands, behind all that does, a tag of each dir, `@` and version: of its path as its manifest tells, and of what its files come to.
func (f fleet) tagged(of ...string) fleet {
	own := f.but()
	for _, s := range of {
		dir, text, _ := strings.Cut(s, "@")
		h, ok := tree.Hash(f.list(), dir)
		if !ok {
			panic("no module in " + dir)
		}
		own[tree.Ledger] += pathOf(f, dir) + " " + text + " " + h + "\n"
	}
	return own
}

func pathOf(f fleet, dir string) string {
	line, _, _ := strings.Cut(f[in(dir, "go.mod")], "\n")
	return strings.TrimPrefix(line, "module ")
}

func in(dir, name string) string {
	if dir == "" {
		return name
	}
	return dir + "/" + name
}

// three are modules of which ex/c requires ex/b, and that one ex/a, as do others outside of the repository; nobody has a tag.
func three() fleet {
	return fleet{
		"a/go.mod": "module ex/a\n", "a/x.go": "package a\n",
		"b/go.mod": "module ex/b\nrequire ex/a v0.1.0 // of ours\n",
		"c/go.mod": "module ex/c\nrequire (\n\tex/b v0.3.0-rc.1+x\n\tout/x v1.0.0\n)\n", "c/in/y.go": "package in\n",
		"README": "none of theirs\n",
	}
}

// released is three, each with a tag, of which all is as it should be.
func released() fleet { return three().tagged("c@v1.2.3", "a@v0.1.0", "b@v0.3.0-rc.1+x") }

// wrongLists are files that may not be.
func wrongLists() [][]api.File {
	f := fleet{"a/go.mod": "no module", tree.Intent: "x"}
	for i := range api.MaxFiles {
		f["f"+strconv.Itoa(i)] = ""
	}
	mod := api.File{Path: "a/go.mod", Data: "module ex/a"}
	return [][]api.File{f.list(), {mod, mod}, {{Path: "b/go.mod", Data: "module ex/b"}, mod}, {{Path: ""}, mod}, {mod, {Path: "b/"}}, {mod, {Path: "b", Data: strings.Repeat("x", api.MaxBytes+1)}}, {{Path: "b"}, {Path: tree.Intent}}, {mod, {Path: strings.Repeat("x", api.MaxPath+1)}}}
}

// wrongFleet is files, and the error that plan.Read tells of them.
type wrongFleet struct {
	f    fleet
	want api.Errno
}

func wrongFleets() []wrongFleet {
	good := released()
	return []wrongFleet{
		{good.but("a/go.mod="), api.ErrNone}, {good.but("b/go.mod=module ex/b\nrequire ex/a"), api.ErrLine}, {good.but("b/go.mod=module ex//b"), api.ErrPath}, {good.but("b/go.mod=module ex/b\nrequire ex/a 1.0.0"), api.ErrVer}, {good.but("b/go.mod=module ex/b\nrequire ex/a v2.0.0"), api.ErrMajor}, {good.but("b/go.mod=module ex/b\nmodule ex/b"), api.ErrTwice}, {good.but("b/go.mod=module ex/b \x7f"), api.ErrWord},
		{good.but(tree.Ledger + "=x"), api.ErrLine}, {good.but(tree.Ledger + "=ex/a v0.1.0 h1:"), api.ErrSum}, {good.tagged("a@v0.1.0"), api.ErrTag}, {good.but("a/go.mod=module ex/b"), api.ErrTwice}, {good.but("a/go.mod=module ex/a\nrequire ex/c v0.1.0"), api.ErrCycle}, {fleet{"go.mod": "module ex/a\nrequire ex/a v1.0.0"}, api.ErrCycle},
	}
}

// P21.1: all is as it should be.
func TestGood(t *testing.T) {
	f, all := three(), released()
	for i, g := range []fleet{
		nil, {"x": "1", tree.Ledger: ""}, {"a/.intent": "", ".intents": "", ".intent/x": "", ".inten": ""}, f, all, {tree.Ledger: all[tree.Ledger]}, all.but(tree.Ledger + "=" + strings.TrimSuffix(all[tree.Ledger], "\n")), all.but("README"),
		// Who changed may require what he likes.
		all.but("b/go.mod=module ex/b\nrequire ex/a v0.0.9"), all.but("b/go.mod=module ex/b\nrequire ex/a v0.2.0"), all.but("c/go.mod=module ex/c\nrequire ex/b v0.1.0+x"), all.but("a/x.go=new").tagged("a@v0.1.1").but("b/x.go=new"),
		// Whoever is required may have changed: his latest version counts.
		all.but("a/x.go=new"), all.but("a/x.go"), f.tagged("a@v0.1.0"), f.tagged("a@v0.1.0", "b@v0.3.0-rc.1+x"), f.tagged("c@v1.0.0", "b@v0.3.0-rc.1+x", "a@v0.1.0").but("c/z=new", "a/z=new"),
		// Whoever is no module of the repository may be required as one likes, be there tags of him or not.
		all.but("a/go.mod", "a/x.go"), {"a/go.mod": "module ex/a\nrequire ex/z v0.0.1", tree.Ledger: all[tree.Ledger]}, (fleet{"a/go.mod": "module ex/a\nrequire ex/z v0.0.1", "z/go.mod": "module ex/z"}).tagged("z@v0.0.2", "a@v0.1.0").but("z/go.mod"), all.but("a/go.mod=module ex/a/v2"),
		// By the path, wherever the module lies.
		all.but("a/go.mod", "a/x.go", "z/go.mod="+f["a/go.mod"], "z/x.go="+f["a/x.go"]),
	} {
		if e := audit.Good(g.list()); e != api.OK {
			t.Errorf("case %d: %d", i, e)
		}
	}
}

// P21.1: somebody who did not change requires another version than the latest one, or one who has none.
func TestGoodLate(t *testing.T) {
	f, all := three(), released()
	requiring := func(text, latest string) fleet {
		g := fleet{"a/go.mod": "module ex/a/v2\n", "b/go.mod": "module ex/b\nrequire ex/a/v2 " + text + "\n"}
		return g.tagged("a@"+latest, "b@v1.0.0")
	}
	for i, c := range []struct {
		f    fleet
		want api.Errno
	}{
		// In every part.
		{requiring("v2.3.4-rc.1+x", "v2.3.4-rc.1+x"), api.OK}, {requiring("v2.3.4", "v2.3.4"), api.OK}, {requiring("v2.4.4-rc.1+x", "v2.3.4-rc.1+x"), api.ErrVer}, {requiring("v2.3.5-rc.1+x", "v2.3.4-rc.1+x"), api.ErrVer}, {requiring("v2.3.4-rc.2+x", "v2.3.4-rc.1+x"), api.ErrVer}, {requiring("v2.3.4-rc.1+y", "v2.3.4-rc.1+x"), api.ErrVer}, {requiring("v2.3.4-rc.1", "v2.3.4-rc.1+x"), api.ErrVer}, {requiring("v2.3.4+x", "v2.3.4"), api.ErrVer}, {requiring("v2.3.4-rc.1", "v2.3.4"), api.ErrVer}, {requiring("v2.3.4", "v2.3.4-rc.1"), api.ErrVer}, {requiring("v2.3.3", "v2.3.4"), api.ErrVer}, {requiring("v2.0.0", "v2.0.1"), api.ErrVer},
		{(fleet{"a/go.mod": "module ex/a\n", "b/go.mod": "module ex/b\nrequire ex/a v1.0.0\n"}).tagged("b@v1.0.0", "a@v0.0.0"), api.ErrVer},
		// The latest tag, not any of them.
		{all.but("a/x.go=new").tagged("a@v0.1.1"), api.ErrVer}, {all.tagged("a@v0.1.1"), api.ErrVer}, {f.tagged("a@v0.0.1", "b@v0.3.0-rc.1+x", "a@v0.1.0", "c@v0.1.0"), api.OK}, {f.tagged("a@v0.1.0", "a@v1.0.0", "b@v0.1.0"), api.ErrVer},
		// No tag: of who was not released nothing may be required, not even v0.0.0.
		{f.tagged("b@v0.3.0-rc.1+x"), api.ErrVer}, {f.tagged("b@v0.3.0-rc.1+x", "c@v1.0.0"), api.ErrVer}, {f.tagged("a@v0.1.0", "c@v1.0.0"), api.ErrVer}, {(fleet{"a/go.mod": "module ex/a", "b/go.mod": "module ex/b\nrequire ex/a v0.0.0"}).tagged("b@v0.1.0"), api.ErrVer}, {all.but("a/go.mod=module ex/d\n", "b/go.mod="+f["b/go.mod"]), api.OK}, {all.but("d/go.mod=module out/x"), api.ErrVer},
		// Whichever module it is, and whichever of what it requires.
		{all.but("a/x.go=new", "c/x.go=new").tagged("a@v0.1.1"), api.ErrVer}, {all.but("b/x.go=new").tagged("b@v0.3.0"), api.ErrVer}, {all.but("b/x.go=new", "c/x.go=new").tagged("b@v0.3.0"), api.OK}, {all.but("b/x.go=new", "c/x.go=new").tagged("b@v0.3.0", "c@v1.2.4"), api.ErrVer}, {all.but("z/go.mod=module ex/z\nrequire (\nex/a v0.1.0\nex/c v1.2.3\nex/b v0.3.0\n)").tagged("z@v0.1.0"), api.ErrVer}, {all.but("z/go.mod=module ex/z\nrequire (\nex/b v0.3.0-rc.1+x\nex/c v1.2.3\nex/a v0.1.0\n)").tagged("z@v0.1.0"), api.OK}, {all.but("0/go.mod=module ex/0\nrequire ex/c v1.2.2").tagged("0@v0.1.0"), api.ErrVer},
	} {
		if e := audit.Good(c.f.list()); e != c.want {
			t.Errorf("case %d: %d, want %d", i, e, c.want)
		}
	}
}

// P21.1: what holds first.
func TestGoodErrors(t *testing.T) {
	all := released()
	late := all.but("a/x.go=new").tagged("a@v0.1.1")
	for i, g := range []fleet{{}, all, late, all.but("a/x.go=new"), three()} {
		for _, intent := range []string{"", "x", "\x01\x06README"} {
			if e := audit.Good(g.but(tree.Intent + "=" + intent).list()); e != api.ErrStage {
				t.Errorf("case %d: %d", i, e)
			}
		}
	}
	for i, c := range wrongFleets() {
		for _, g := range []fleet{c.f, c.f.but(tree.Intent + "=")} {
			if e := audit.Good(g.list()); e != c.want {
				t.Errorf("case %d: %d, want %d", i, e, c.want)
			}
		}
	}
	for i, l := range wrongLists() {
		if e := audit.Good(l); e != api.ErrArg {
			t.Errorf("list %d: %d", i, e)
		}
	}
}

// P21.2: a row, and a line, of each module, in the order of their directories.
func TestRows(t *testing.T) {
	f, all := three(), released()
	for i, c := range []struct {
		f    fleet
		want []audit.Row
		text string
	}{
		{nil, nil, ""}, {fleet{"x": "1", tree.Ledger: all[tree.Ledger]}, nil, ""},
		{f, []audit.Row{{Path: "ex/a", Changed: true}, {Path: "ex/b", Changed: true}, {Path: "ex/c", Changed: true}}, "ex/a - changed\nex/b - changed\nex/c - changed\n"},
		{all, []audit.Row{{"ex/a", true, v("v0.1.0"), false}, {"ex/b", true, v("v0.3.0-rc.1+x"), false}, {"ex/c", true, v("v1.2.3"), false}}, "ex/a v0.1.0 same\nex/b v0.3.0-rc.1+x same\nex/c v1.2.3 same\n"},
		{all.but("b/z=new", tree.Intent+"=x"), []audit.Row{{"ex/a", true, v("v0.1.0"), false}, {"ex/b", true, v("v0.3.0-rc.1+x"), true}, {"ex/c", true, v("v1.2.3"), false}}, "ex/a v0.1.0 same\nex/b v0.3.0-rc.1+x changed\nex/c v1.2.3 same\n"},
		// The latest tag counts, and so what it says of what changed.
		{all.but("a/x.go=new").tagged("a@v0.1.1"), []audit.Row{{"ex/a", true, v("v0.1.1"), false}, {"ex/b", true, v("v0.3.0-rc.1+x"), false}, {"ex/c", true, v("v1.2.3"), false}}, "ex/a v0.1.1 same\nex/b v0.3.0-rc.1+x same\nex/c v1.2.3 same\n"},
		{all.but("a/x.go=new").tagged("a@v0.1.1").but("a/x.go=" + f["a/x.go"]), []audit.Row{{"ex/a", true, v("v0.1.1"), true}, {"ex/b", true, v("v0.3.0-rc.1+x"), false}, {"ex/c", true, v("v1.2.3"), false}}, "ex/a v0.1.1 changed\nex/b v0.3.0-rc.1+x same\nex/c v1.2.3 same\n"},
		// In the order of directories: not of files, paths or tags.
		{(fleet{"a-b/go.mod": "module m/z", "a/go.mod": "module n/v2", "b/go.mod": "module a", "go.mod": "module m\n"}).tagged("b@v1.0.0", "a@v2.0.0"), []audit.Row{{Path: "m", Changed: true}, {"n/v2", true, v("v2.0.0"), false}, {Path: "m/z", Changed: true}, {"a", true, v("v1.0.0"), false}}, "m - changed\nn/v2 v2.0.0 same\nm/z - changed\na v1.0.0 same\n"},
		{(fleet{"a/go.mod": "module ex/a"}).tagged("a@v0.0.0"), []audit.Row{{"ex/a", true, api.Ver{}, false}}, "ex/a v0.0.0 same\n"},
	} {
		if got, e := audit.Rows(c.f.list()); !slices.Equal(got, c.want) || e != api.OK {
			t.Errorf("case %d: %v, %d", i, got, e)
		}
		if got, e := audit.Text(c.f.list()); got != c.text || e != api.OK {
			t.Errorf("case %d: %q, %d", i, got, e)
		}
	}
}

// P21.2: plan.Read's errors, and nothing beside.
func TestRowsErrors(t *testing.T) {
	for i, c := range wrongFleets() {
		l := c.f.but(tree.Intent + "=").list()
		if got, e := audit.Rows(l); len(got) != 0 || e != c.want {
			t.Errorf("case %d: %v, %d, want %d", i, got, e, c.want)
		}
		if got, e := audit.Text(l); got != "" || e != c.want {
			t.Errorf("case %d: %q, %d, want %d", i, got, e, c.want)
		}
	}
	for i, l := range wrongLists() {
		if got, e := audit.Rows(l); len(got) != 0 || e != api.ErrArg {
			t.Errorf("list %d: %v, %d", i, got, e)
		}
		if got, e := audit.Text(l); got != "" || e != api.ErrArg {
			t.Errorf("list %d: %q, %d", i, got, e)
		}
	}
}

// made is a fleet in which nobody depends on himself, some of it released already, and some changed behind that; most require what was released.
func made(r *rand.Rand) fleet {
	f := fleet{"README": "none of theirs"}
	n := 1 + r.Intn(6)
	rank := r.Perm(n)
	dirs := []string{"", "a", "a/b", "a-b", "c/d", "e"}
	of := func() string {
		if r.Intn(4) > 0 {
			return "v0.2.3"
		}
		return []string{"v0.2.3-rc.1", "v0.2.3+x", "v1.2.3"}[r.Intn(3)]
	}
	for i := range n {
		text := "module m" + strconv.Itoa(i) + "\n"
		for j := range n {
			if rank[i] > rank[j] && r.Intn(3) == 0 {
				text += "require m" + strconv.Itoa(j) + " " + of() + "\n"
			}
		}
		f[in(dirs[i], "go.mod")] = text
	}
	for i := range n {
		if r.Intn(6) > 0 {
			f = f.tagged(dirs[i] + "@" + of())
		}
	}
	for i := range n {
		if r.Intn(5) == 0 {
			f[in(dirs[i], "y.go")] = "behind the tag"
		}
	}
	return f
}

// P21.1, P21.2: made-up fleets, held against the chapter's words.
func TestMade(t *testing.T) {
	r := rand.New(rand.NewSource(1))
	var good, late int
	for range 3000 {
		f := made(r)
		repo, e := plan.Read(f.list())
		if e != api.OK {
			t.Fatalf("%v: %d", f, e)
		}
		want, text := api.OK, ""
		for at, m := range repo.Mods {
			isChanged := slices.Contains(repo.Changed, at)
			for _, q := range m.Reqs {
				for _, other := range repo.Mods {
					if tag, ok := ledger.Latest(repo.Tags, other.Path); other.Path == q.Path && !isChanged && (!ok || tag.Ver != q.Ver) {
						want = api.ErrVer
					}
				}
			}
			line := m.Path + " - "
			if tag, ok := ledger.Latest(repo.Tags, m.Path); ok {
				line = m.Path + " " + ver.Text(tag.Ver) + " "
			}
			if text += line + "same\n"; isChanged {
				text = strings.TrimSuffix(text, "same\n") + "changed\n"
			}
		}
		if got := audit.Good(f.list()); got != want {
			t.Fatalf("%v: %d, want %d", f, got, want)
		}
		if got, e := audit.Text(f.list()); got != text || e != api.OK {
			t.Fatalf("%v: %q, %d, want %q", f, got, e, text)
		}
		if good++; want != api.OK {
			late++
		}
	}
	if good < 2*late || late < 100 {
		t.Errorf("%d of %d are late", late, good)
	}
}

// P21.3: what a plan makes of what is good is good, if nobody requires another version than the latest one of a module that was released before and is not now.
func TestPlanned(t *testing.T) {
	r := rand.New(rand.NewSource(2))
	many := 0
	for range 3000 {
		f := made(r)
		l := f.list()
		wants := []bump.Want{{Path: pathOf(f, tree.Dirs(l)[0]), Level: 1 + r.Intn(2)}}[:r.Intn(2)]
		p, e := plan.Make(l, wants)
		if e != api.OK || audit.Good(l) != api.OK || holdsBack(t, l, p) {
			continue
		}
		many++
		after, e := files.Apply(l, p.Ops)
		if got := audit.Good(after); got != api.OK || e != api.OK {
			t.Fatalf("%v: %d, %d", f, got, e)
		}
		staged, e := stage.Begin(l, p.Ops)
		if during, f := files.Apply(l, staged); audit.Good(during) != api.ErrStage || e != api.OK || f != api.OK {
			t.Fatalf("%v: %d, %d", during, e, f)
		}
		if rows, e := audit.Rows(after); e != api.OK || slices.ContainsFunc(rows, func(r audit.Row) bool { return r.Changed || !r.Has }) {
			t.Fatalf("%v: %v, %d", f, rows, e)
		}
	}
	if many < 500 {
		t.Errorf("%d alone", many)
	}
}

// holdsBack tells whether somebody requires another version than the latest one of a module that was released, and is not released by p.
func holdsBack(t *testing.T, l []api.File, p plan.Plan) bool {
	t.Helper()
	repo, e := plan.Read(l)
	if e != api.OK {
		t.Fatalf("%v: %d", l, e)
	}
	for _, m := range repo.Mods {
		for _, q := range m.Reqs {
			isIn := slices.ContainsFunc(repo.Mods, func(m api.Mod) bool { return m.Path == q.Path })
			isReleased := slices.ContainsFunc(p.Items, func(x plan.Item) bool { return x.Path == q.Path })
			if tag, ok := ledger.Latest(repo.Tags, q.Path); isIn && ok && !isReleased && tag.Ver != q.Ver {
				return true
			}
		}
	}
	return false
}

// R5, R6: what is told is memory of its own, what is handed in stays, and it is the same again.
func TestOwnMemory(t *testing.T) {
	l, was := slices.Grow(released().list(), 9), released().list()
	for range 2 {
		rows, _ := audit.Rows(l)
		text, _ := audit.Text(l)
		if len(rows) != 3 || rows[2].Path != "ex/c" || text != "ex/a v0.1.0 same\nex/b v0.3.0-rc.1+x same\nex/c v1.2.3 same\n" || audit.Good(l) != api.OK {
			t.Fatalf("%v, %q", rows, text)
		}
		clear(rows)
		if !slices.Equal(l, was) || l[:len(l)+1][len(l)] != (api.File{}) {
			t.Fatalf("%v", l)
		}
	}
}
