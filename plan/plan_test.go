package plan_test

import (
	"math"
	"math/rand"
	"regexp"
	"slices"
	"strconv"
	"strings"
	"testing"

	"armada/api"
	"armada/bump"
	"armada/edit"
	"armada/files"
	"armada/graph"
	"armada/ledger"
	"armada/plan"
	"armada/tree"
	"armada/ver"
)

// v is the version of a text that has one.
func v(s string) api.Ver {
	got, ok := ver.Parse(s)
	if !ok {
		panic(s + " is no version")
	}
	return got
}

// reqs are requirements, each a path and a version's text, with an `@` between them.
func reqs(of ...string) []api.Req {
	var l []api.Req
	for _, s := range of {
		path, text, _ := strings.Cut(s, "@")
		l = append(l, api.Req{Path: path, Ver: v(text)})
	}
	return l
}

// fleet is files by their paths.
type fleet map[string]string

// list is them in the order of their paths.
func (f fleet) list() []api.File {
	var l []api.File
	for path, data := range f {
		l = append(l, api.File{Path: path, Data: data})
	}
	slices.SortFunc(l, func(a, b api.File) int { return strings.Compare(a.Path, b.Path) })
	return l
}

// but is f, in which each path ahead of an `=` has the bytes behind it; a path without an `=` is gone.
func (f fleet) but(texts ...string) fleet {
	own := fleet{}
	for path, data := range f {
		own[path] = data
	}
	for _, s := range texts {
		path, data, has := strings.Cut(s, "=")
		if own[path] = data; !has {
			delete(own, path)
		}
	}
	return own
}

// tagged is f, in whose ledger there stands, behind all that does, a tag of each dir, `@` and version: of its path as its manifest tells, and of what its files come to.
func (f fleet) tagged(of ...string) fleet {
	own := f.but()
	for _, s := range of {
		dir, text, _ := strings.Cut(s, "@")
		own[tree.Ledger] += pathOf(f, dir) + " " + text + " " + hash(f, dir) + "\n"
	}
	return own
}

func pathOf(f fleet, dir string) string {
	line, _, _ := strings.Cut(f[in(dir, "go.mod")], "\n")
	return strings.TrimPrefix(line, "module ")
}

func in(dir, name string) string {
	if dir == "" {
		return name
	}
	return dir + "/" + name
}

// hash is what the files of a module's directory come to.
func hash(f fleet, dir string) string {
	h, ok := tree.Hash(f.list(), dir)
	if !ok {
		panic("no module in " + dir)
	}
	return h
}

// three are modules of which ex/c requires ex/b, and that one ex/a, as do others outside of the repository.
func three() fleet {
	return fleet{
		"a/go.mod": "module ex/a\n", "a/x.go": "package a\n",
		"b/go.mod": "module ex/b\ngo 1.27\nrequire ex/a v0.1.0 // of ours\n",
		"c/go.mod": "module ex/c\nrequire (\n\tex/b v0.1.0\n\tout/x v1.0.0 // ex/b v0.1.0\n)\n", "c/in/y.go": "package in\n",
		"README": "none of theirs\n",
	}
}

// same tells whether two repositories are the same.
func same(a, b plan.Repo) bool {
	return slices.EqualFunc(a.Mods, b.Mods, func(a, b api.Mod) bool {
		return a.Dir == b.Dir && a.Path == b.Path && slices.Equal(a.Reqs, b.Reqs)
	}) && slices.Equal(a.Tags, b.Tags) && slices.Equal(a.Changed, b.Changed)
}

func isZero(p plan.Plan) bool { return len(p.Items) == 0 && len(p.Ops) == 0 }

// samePlan tells whether two plans are the same.
func samePlan(a, b plan.Plan) bool {
	return slices.EqualFunc(a.Items, b.Items, func(a, b plan.Item) bool {
		return a.Dir == b.Dir && a.Path == b.Path && a.Has == b.Has && a.Old == b.Old && a.New == b.New && a.Level == b.Level && slices.Equal(a.Edits, b.Edits) && a.Hash == b.Hash
	}) && slices.Equal(a.Ops, b.Ops)
}

// P19.1: the modules, in the order of their directories, and what each requires.
func TestReadMods(t *testing.T) {
	for i, c := range []struct {
		f    fleet
		want []api.Mod
	}{
		{nil, nil}, {fleet{"x.go": "module ex/a\n", "a/go.mod.x": "", "xgo.mod": "no module", tree.Intent: "x"}, nil},
		{fleet{"go.mod": "module ex/a"}, []api.Mod{{Dir: "", Path: "ex/a"}}}, {fleet{"go.mod": "module ex/a", "a/go.mod": "module ex\n"}, []api.Mod{{Dir: "", Path: "ex/a"}, {Dir: "a", Path: "ex"}}},
		// In the order of directories, not in that of files.
		{fleet{"a-b/go.mod": "module one", "a/go.mod": "module two", "a/b/go.mod": "module three", "A/go.mod": "module ex/four/v2"}, []api.Mod{{Dir: "A", Path: "ex/four/v2"}, {Dir: "a", Path: "two"}, {Dir: "a-b", Path: "one"}, {Dir: "a/b", Path: "three"}}},
		{three(), []api.Mod{{Dir: "a", Path: "ex/a"}, {Dir: "b", Path: "ex/b", Reqs: reqs("ex/a@v0.1.0")}, {Dir: "c", Path: "ex/c", Reqs: reqs("ex/b@v0.1.0", "out/x@v1.0.0")}}},
		// None but requirements count: no cycle by others.
		{fleet{"a/go.mod": "module ex/a\nexclude ex/b v1.0.0\nreplace ex/b => b\nretract v1.0.0\n", "b/go.mod": "module ex/b\nrequire (\nz/z v1.0.0\nex/a v0.0.1-rc.1+x\n)\nrequire a v0.0.0\n"}, []api.Mod{{Dir: "a", Path: "ex/a"}, {Dir: "b", Path: "ex/b", Reqs: reqs("z/z@v1.0.0", "ex/a@v0.0.1-rc.1+x", "a@v0.0.0")}}},
	} {
		got, e := plan.Read(c.f.list())
		var all []int
		for at := range c.want {
			all = append(all, at)
		}
		if !same(got, plan.Repo{Mods: c.want, Changed: all}) || e != api.OK {
			t.Errorf("case %d: %v, %d", i, got, e)
		}
	}
	var most []string
	for i := range api.MaxMods {
		most = append(most, "d"+strconv.Itoa(i)+"/go.mod=module m"+strconv.Itoa(i))
	}
	if got, e := plan.Read(fleet{}.but(most...).list()); len(got.Mods) != api.MaxMods || len(got.Changed) != api.MaxMods || e != api.OK {
		t.Errorf("%v, %d", got, e)
	}
}

// P19.1: the tags, and who changed behind the latest one.
func TestReadChanged(t *testing.T) {
	f := three()
	now := f.tagged("c@v0.1.0", "b@v0.1.0", "a@v0.1.0")
	for i, c := range []struct {
		f    fleet
		want []int
	}{
		{f, []int{0, 1, 2}}, {f.but(tree.Ledger + "="), []int{0, 1, 2}}, {now, nil}, {f.tagged("b@v0.1.0"), []int{0, 2}},
		{now.but("README=other", "x.go=new", tree.Intent+"=x"), nil}, {now.but("a/x.go=other"), []int{0}}, {now.but("a/x.go"), []int{0}}, {now.but("c/z=", "b/go.mod="+f["b/go.mod"]+"\n"), []int{1, 2}},
		{now.but("a/new/go.mod=module ex/new"), []int{1}}, {now.but("c/in/go.mod=module ex/in"), []int{2, 3}}, {now.but("go.mod=module ex"), []int{0}}, {now.but("a/x.go", "a/go.mod"), nil},
		// The latest tag counts, be others as they are.
		{now.but("a/x.go=other").tagged("a@v0.1.1"), nil}, {now.but("a/x.go=other").tagged("a@v0.2.0").but("a/x.go=" + f["a/x.go"]), []int{0}}, {now.but("a/x.go=other").tagged("a@v0.2.0").but("a/x.go=" + f["a/x.go"]).tagged("a@v0.2.1"), nil},
		// By the path, wherever the module lies; its directory is no part of what its files come to.
		{now.but("a/go.mod", "a/x.go", "z/go.mod="+f["a/go.mod"], "z/x.go="+f["a/x.go"]), nil}, {now.but("a/go.mod=module ex/a/v2"), []int{0}}, {now.but("b/go.mod=module ex/a\n", "b/x.go=package a\n", "a/go.mod=module ex/b\n", "a/x.go"), []int{0}},
		{fleet{"go.mod": "module ex\n", "x": "1"}.tagged("@v0.1.0"), nil}, {fleet{"go.mod": "module ex\n", "x": "1"}.tagged("@v0.1.0").but("x=2"), []int{0}},
		// A ledger of others.
		{fleet{"a/go.mod": "module ex/a", tree.Ledger: now[tree.Ledger]}, []int{0}}, {fleet{tree.Ledger: now[tree.Ledger]}, nil}, {fleet{tree.Ledger: strings.TrimSuffix(now[tree.Ledger], "\n")}, nil},
	} {
		tags, _, _ := ledger.Parse(c.f[tree.Ledger])
		got, e := plan.Read(c.f.list())
		if got.Mods = nil; !same(got, plan.Repo{Tags: tags, Changed: c.want}) || e != api.OK {
			t.Errorf("case %d: %v, %d, want %v", i, got, e, c.want)
		}
	}
}

// wrongLists are files that may not be, all with modules.
func wrongLists() [][]api.File {
	f := fleet{"a/go.mod": "no module"}
	for i := range api.MaxFiles {
		f["f"+strconv.Itoa(i)] = ""
	}
	mod := api.File{Path: "a/go.mod", Data: "module ex/a"}
	return [][]api.File{f.list(), {mod, mod}, {{Path: "b/go.mod", Data: "module ex/b"}, mod}, {{Path: ""}, mod}, {mod, {Path: "b/"}}, {mod, {Path: "b", Data: strings.Repeat("x", api.MaxBytes+1)}}, {{Path: "a/../go.mod"}}, {mod, {Path: strings.Repeat("x", api.MaxPath+1)}}}
}

// wrongFleet is files, and the error that Read, and so Make, tells of them.
type wrongFleet struct {
	f    fleet
	want api.Errno
}

func wrongFleets() []wrongFleet {
	good := three()
	h := hash(good, "a")
	line := func(s string) string { return tree.Ledger + "=" + s + "\n" }
	cycle := fleet{"a/go.mod": "module ex/a\nrequire ex/b v1.0.0", "b/go.mod": "module ex/b\nrequire ex/a v1.0.0"}
	twice := fleet{"a/go.mod": "module ex/a", "b/go.mod": "module ex/a"}
	var many []string
	for i := range api.MaxMods + 1 {
		many = append(many, "d"+strconv.Itoa(i)+"/go.mod=module ex/a")
	}
	return []wrongFleet{
		{fleet{"go.mod": ""}, api.ErrNone}, {good.but("z/go.mod="), api.ErrNone}, {good.but("b/go.mod=module ex/b\nrequire ex/a"), api.ErrLine}, {good.but("b/go.mod=modul ex/b"), api.ErrLine}, {good.but("b/go.mod=module ex//b"), api.ErrPath}, {good.but("b/go.mod=module ex/b\nrequire ex/a 1.0.0"), api.ErrVer}, {good.but("b/go.mod=module ex/b\nrequire ex/a v2.0.0"), api.ErrMajor}, {good.but("b/go.mod=module ex/b\nmodule ex/b"), api.ErrTwice}, {good.but("b/go.mod=module ex/b \x7f"), api.ErrWord},
		// The first one in the order of directories, not in that of files.
		{good.but("b-c/go.mod=", "b/go.mod=module ex//b"), api.ErrPath}, {good.but("b-c/go.mod=module ex//b", "b/go.mod="), api.ErrNone}, {good.but("go.mod=x", "a/go.mod="), api.ErrLine}, {good.but("c/go.mod=x", "b/go.mod="), api.ErrNone},
		{good.but(line("ex/a v0.1.0")), api.ErrLine}, {good.but(line("ex/a v0.1.0  " + h)), api.ErrLine}, {good.but(line("ex//a v0.1.0 " + h)), api.ErrPath}, {good.but(line("ex/a v2.0.0 " + h)), api.ErrMajor}, {good.but(line("ex/a v0.1.0 h1:YQ==")), api.ErrSum}, {good.but(line("ex/z v0.1.0 " + h + "\nex/z v0.1.0 " + h)), api.ErrTag}, {good.but(line("")), api.ErrLine}, {fleet{}.but(line("x")), api.ErrLine},
		{twice, api.ErrTwice}, {fleet{}.but(many...), api.ErrArg}, {cycle, api.ErrCycle}, {fleet{"go.mod": "module ex/a\nrequire ex/a v1.0.0"}, api.ErrCycle}, {good.but("a/go.mod=module ex/a\nrequire ex/c v0.1.0"), api.ErrCycle},
		// Manifests stand ahead of the ledger, that one ahead of the modules' errors, and these ahead of cycles.
		{good.but("c/go.mod=", line("x")), api.ErrNone}, {twice.but("c/go.mod=module ex//c"), api.ErrPath}, {cycle.but("c/go.mod="), api.ErrNone}, {fleet{}.but(many...).but("d9/go.mod="), api.ErrNone},
		{twice.but(line("ex/a v2.0.0 " + h)), api.ErrMajor}, {cycle.but(line("x")), api.ErrLine}, {fleet{}.but(many...).but(line("ex/a v0.1.0 h1:")), api.ErrSum},
		{cycle.but("c/go.mod=module ex/a"), api.ErrTwice}, {fleet{}.but(many...).but("d0/go.mod=module ex/a\nrequire ex/a v1.0.0"), api.ErrArg},
	}
}

// P19.1: what holds first.
func TestReadErrors(t *testing.T) {
	for i, c := range wrongFleets() {
		if got, e := plan.Read(c.f.list()); !same(got, plan.Repo{}) || e != c.want {
			t.Errorf("case %d: %v, %d, want %d", i, got, e, c.want)
		}
	}
	for i, l := range wrongLists() {
		if got, e := plan.Read(l); !same(got, plan.Repo{}) || e != api.ErrArg {
			t.Errorf("list %d: %v, %d", i, got, e)
		}
	}
}

// P19.2: nobody is released.
func TestMakeNone(t *testing.T) {
	now := three().tagged("a@v0.1.0", "b@v0.1.0", "c@v0.1.0")
	for i, f := range []fleet{nil, {"x.go": "x"}, now, now.but("README", "x=1", tree.Intent+"=x"), {tree.Ledger: now[tree.Ledger]}, now.but("c/go.mod", "c/in/y.go")} {
		if got, e := plan.Make(f.list(), nil); !isZero(got) || e != api.OK {
			t.Errorf("case %d: %v, %d", i, got, e)
		}
	}
}

// P19.2: the first release of all.
func TestMakeFirst(t *testing.T) {
	f := three().but("b/go.mod=module ex/b\nrequire ex/a v0.0.7 // of ours\n")
	after := f.but("b/go.mod=module ex/b\nrequire ex/a v0.1.0 // of ours\n")
	text := "ex/a v0.1.0 " + hash(after, "a") + "\nex/b v0.1.0 " + hash(after, "b") + "\nex/c v0.1.0 " + hash(after, "c") + "\n"
	want := plan.Plan{
		Items: []plan.Item{
			{Dir: "a", Path: "ex/a", New: v("v0.1.0"), Level: 1, Hash: hash(after, "a")},
			{Dir: "b", Path: "ex/b", New: v("v0.1.0"), Level: 3, Edits: reqs("ex/a@v0.1.0"), Hash: hash(after, "b")},
			{Dir: "c", Path: "ex/c", New: v("v0.1.0"), Level: 1, Edits: reqs("ex/b@v0.1.0"), Hash: hash(after, "c")},
		},
		// ex/c requires already what it is to require: its bytes stay.
		Ops: []api.Op{{Path: "b/go.mod", Data: after["b/go.mod"]}, {Path: "ledger.txt", Data: text}},
	}
	for _, g := range []fleet{f, f.but(tree.Ledger + "=")} {
		if got, e := plan.Make(g.list(), []bump.Want{{Path: "ex/b", Level: 3}}); !samePlan(got, want) || e != api.OK {
			t.Errorf("%v, %d", got, e)
		}
	}
}

// P19.2: who changed, and who depends on them, in order; nobody else; behind the tags that there are.
func TestMake(t *testing.T) {
	f := three().but("0/go.mod=module ex/0\nrequire (\n  ex/c   v0.0.1-rc.1+x\n  ex/a v0.1.0 //x\n  ex/b v0.1.0\n)")
	now := f.tagged("c@v0.1.0", "b@v0.9.9-rc.1").tagged("a@v0.1.0", "0@v1.2.3").but("b/x.go=new")
	want := []plan.Item{
		{Dir: "b", Path: "ex/b", Has: true, Old: v("v0.9.9-rc.1"), New: v("v0.9.9"), Level: 1},
		{Dir: "c", Path: "ex/c", Has: true, Old: v("v0.1.0"), New: v("v0.2.0"), Level: 2, Edits: reqs("ex/b@v0.9.9")},
		{Dir: "0", Path: "ex/0", Has: true, Old: v("v1.2.3"), New: v("v1.2.4"), Level: 1, Edits: reqs("ex/c@v0.2.0", "ex/b@v0.9.9")},
	}
	zero := "0/go.mod=module ex/0\nrequire (\n  ex/c   v0.2.0\n  ex/a v0.1.0 //x\n  ex/b v0.9.9\n)"
	after := now.but(zero, "c/go.mod=module ex/c\nrequire (\n\tex/b v0.9.9\n\tout/x v1.0.0 // ex/b v0.1.0\n)\n")
	text := now[tree.Ledger]
	for i := range want {
		want[i].Hash = hash(after, want[i].Dir)
		text += want[i].Path + " " + ver.Text(want[i].New) + " " + want[i].Hash + "\n"
	}
	ops := []api.Op{{Path: "0/go.mod", Data: after["0/go.mod"]}, {Path: "c/go.mod", Data: after["c/go.mod"]}, {Path: "ledger.txt", Data: text}}
	// A ledger whose last line does not end yet ends it.
	for _, g := range []fleet{now, now.but(tree.Ledger + "=" + strings.TrimSuffix(now[tree.Ledger], "\n"))} {
		if got, e := plan.Make(g.list(), []bump.Want{{Path: "ex/c", Level: 2}}); !samePlan(got, plan.Plan{Items: want, Ops: ops}) || e != api.OK {
			t.Errorf("%v, %d", got, e)
		}
	}
}

// P19.2: ops stand in the order of their paths, not in that of directories; the ledger among them.
func TestMakeOps(t *testing.T) {
	f := fleet{"a/go.mod": "module ex/a\nrequire ex/z v0.0.1", "a-b/go.mod": "module ex/ab\nrequire ex/z v0.0.1", "z/go.mod": "module ex/z\nrequire ex/n v0.0.1", "m/go.mod": "module ex/m\nrequire ex/n v0.0.1", "n/go.mod": "module ex/n", "go.mod": "module ex\nrequire ex/n v0.0.1"}
	got, e := plan.Make(f.list(), nil)
	var paths []string
	for _, op := range got.Ops {
		paths = append(paths, op.Path)
		if op.Gone {
			t.Errorf("%s is gone", op.Path)
		}
	}
	if want := []string{"a-b/go.mod", "a/go.mod", "go.mod", "ledger.txt", "m/go.mod", "z/go.mod"}; !slices.Equal(paths, want) || e != api.OK {
		t.Errorf("%q, %d", paths, e)
	}
}

// P19.2: hashes are those behind all edits, those of other modules' manifests too, that lie in theirs.
func TestMakeHash(t *testing.T) {
	f := fleet{"a/go.mod": "module ex/a\nrequire ex/z v0.0.1\n", "a/go.mod/go.mod": "module ex/in\n", "z/go.mod": "module ex/z\n"}
	after := f.but("a/go.mod=module ex/a\nrequire ex/z v0.1.0\n")
	got, e := plan.Make(f.list(), nil)
	if e != api.OK || len(got.Items) != 3 {
		t.Fatalf("%v, %d", got, e)
	}
	for i, dir := range []string{"a/go.mod", "z", "a"} {
		if x := got.Items[i]; x.Dir != dir || x.Hash != hash(after, dir) || (hash(f, dir) != x.Hash) != (dir == "a/go.mod") {
			t.Errorf("%v", x)
		}
	}
	// Who is not released gets no tag, be it changed by that.
	now := f.tagged("a/go.mod@v0.1.0", "a@v0.1.0")
	got, e = plan.Make(now.list(), nil)
	if want := []string{"ex/z", "ex/a"}; e != api.OK || len(got.Items) != 2 || got.Items[0].Path != want[0] || got.Items[1].Path != want[1] {
		t.Errorf("%v, %d", got, e)
	}
}

// P19.2: Read's errors, and then those of wants, and of releases.
func TestMakeErrors(t *testing.T) {
	bad := []bump.Want{{Path: "ex/x", Level: 0}}
	for i, c := range wrongFleets() {
		for _, wants := range [][]bump.Want{nil, bad} {
			if got, e := plan.Make(c.f.list(), wants); !isZero(got) || e != c.want {
				t.Errorf("case %d: %v, %d, want %d", i, got, e, c.want)
			}
		}
	}
	for i, l := range wrongLists() {
		if got, e := plan.Make(l, bad); !isZero(got) || e != api.ErrArg {
			t.Errorf("list %d: %v, %d", i, got, e)
		}
	}
	f := three()
	now := f.tagged("a@v1.0.0", "b@v1.999999999.999999999", "c@v0.1.0")
	over := fleet{"go.mod": "module ex/v999999999\n"}.tagged("@v999999999.999999999.999999999")
	for i, c := range []struct {
		f     fleet
		wants []bump.Want
		want  api.Errno
	}{
		{nil, bad, api.ErrNone}, {f, bad, api.ErrNone}, {f, []bump.Want{{Path: "a", Level: 1}}, api.ErrNone}, {f, []bump.Want{{Path: "ex/a", Level: 0}}, api.ErrArg}, {now, []bump.Want{{Path: "ex/a", Level: 4}}, api.ErrArg}, {f, []bump.Want{{Path: "ex/a", Level: math.MinInt}, {Path: "ex/x", Level: 1}}, api.ErrArg}, {f, []bump.Want{{Path: "ex/a", Level: 1}, {Path: "ex/a", Level: 1}}, api.ErrTwice},
		{now, []bump.Want{{Path: "ex/a", Level: 3}}, api.ErrMajor}, {now, []bump.Want{{Path: "ex/b", Level: 1}}, api.ErrMajor}, {now.but("a/x.go=new"), nil, api.ErrMajor}, {now.but("c/x.go=new"), nil, api.OK}, {over, nil, api.OK}, {over.but("x=1"), nil, api.ErrOver}, {over, []bump.Want{{Path: "ex/v999999999", Level: 3}}, api.ErrOver},
	} {
		if got, e := plan.Make(c.f.list(), c.wants); e != c.want || e != api.OK && !isZero(got) {
			t.Errorf("case %d: %v, %d, want %d", i, got, e, c.want)
		}
	}
}

// P19.2: a manifest that gets too long.
func TestMakeLongManifest(t *testing.T) {
	user := "module ex/b\nrequire ex/a v0.1.9 //"
	f := fleet{"a/go.mod": "module ex/a\n"}.tagged("a@v0.1.9").but("a/x.go=new")
	for _, more := range []int{0, 1} {
		n := api.MaxBytes - 1 + more
		g := f.but("b/go.mod=" + user + strings.Repeat("x", n-len(user)))
		got, e := plan.Make(g.list(), nil) // ex/a v0.1.10 is a byte longer
		if more == 0 && (e != api.OK || len(got.Ops) != 2 || len(got.Ops[0].Data) != api.MaxBytes) {
			t.Errorf("%v, %d", got, e)
		}
		if more == 1 && (e != api.ErrSize || !isZero(got)) {
			t.Errorf("%v, %d", got, e)
		}
		// Where it is not edited, it may be as long as it is.
		if got, e := plan.Make(g.but("a/x.go").list(), nil); len(got.Items) != 1 || e != api.OK {
			t.Errorf("%v, %d", got, e)
		}
	}
}

// ledgerOf is a ledger of n bytes, of tags whose hash is h.
func ledgerOf(n int, h string) string {
	tail := " v0.1.0 " + h + "\n"
	lines := n/(api.MaxPath+len(tail)) + 1
	var s string
	for i := range lines {
		size := n / lines
		if i < n%lines {
			size++
		}
		head := strconv.Itoa(i)
		s += head + strings.Repeat("y", size-len(head)-len(tail)) + tail
	}
	return s
}

// P19.2: a ledger that gets too long.
func TestMakeLongLedger(t *testing.T) {
	f := fleet{"a/go.mod": "module ex/a\n"}
	h := hash(f, "a")
	n := api.MaxBytes - len("ex/a v0.1.0 "+h+"\n")
	got, e := plan.Make(f.but(tree.Ledger+"="+ledgerOf(n, h)).list(), nil)
	if e != api.OK || len(got.Ops) != 1 || len(got.Ops[0].Data) != api.MaxBytes {
		t.Errorf("%v, %d", got, e)
	}
	for _, n := range []int{n + 1, n + 2, api.MaxBytes} {
		long := f.but(tree.Ledger + "=" + ledgerOf(n, h))
		if got, e := plan.Make(long.list(), nil); !isZero(got) || e != api.ErrSize {
			t.Errorf("%v, %d", got, e)
		}
		// Where nobody is released, nobody asks for room.
		if got, e := plan.Make(long.but("a/go.mod").list(), nil); !isZero(got) || e != api.OK {
			t.Errorf("%v, %d", got, e)
		}
	}
}

// P19.2: a ledger that is a file too many.
func TestMakeManyFiles(t *testing.T) {
	f := fleet{"a/go.mod": "module ex/a\n", "b/go.mod": "module ex/b\nrequire ex/a v0.0.1\n"}
	for len(f) < api.MaxFiles {
		f["f"+strconv.Itoa(len(f))] = ""
	}
	if got, e := plan.Make(f.list(), nil); !isZero(got) || e != api.ErrFull {
		t.Errorf("%v, %d", got, e)
	}
	for _, g := range []fleet{f.but("f7"), f.but("f7", tree.Ledger+"=")} {
		if got, e := plan.Make(g.list(), nil); len(got.Items) != 2 || len(got.Ops) != 2 || e != api.OK {
			t.Errorf("%v, %d", got, e)
		}
	}
	if got, e := plan.Make(f.but("a/go.mod", "b/go.mod", "x=", "y=").list(), nil); !isZero(got) || e != api.OK {
		t.Errorf("%v, %d", got, e)
	}
}

// P19.3: line by line, be it a plan that Make told, or not.
func TestText(t *testing.T) {
	odd := api.Ver{Major: -1}
	for i, c := range []struct {
		items []plan.Item
		want  string
	}{
		{nil, ""},
		{[]plan.Item{{Dir: "a", Path: "ex/a", New: v("v0.1.0"), Level: 1, Hash: "h1:x"}}, "release ex/a - v0.1.0 1\ntag ex/a v0.1.0 h1:x\n"},
		{[]plan.Item{{Path: "ex/b", Has: true, Old: v("v1.2.3-rc.1+x"), New: v("v1.3.0"), Level: 2, Edits: reqs("ex/a@v0.1.0", "ex/z/v2@v2.0.0"), Hash: "h1:y"}, {Path: "ex/a", Has: true, Old: v("v1.0.0"), New: v("v1.0.1"), Level: 3, Hash: "h"}}, "release ex/b v1.2.3-rc.1+x v1.3.0 2\nrequire ex/a v0.1.0\nrequire ex/z/v2 v2.0.0\ntag ex/b v1.3.0 h1:y\nrelease ex/a v1.0.0 v1.0.1 3\ntag ex/a v1.0.1 h\n"},
		// Of no release, Old is no matter; levels are numbers, whichever they are.
		{[]plan.Item{{Path: "p", Old: v("v1.0.0"), New: v("v0.0.0"), Level: -12, Hash: "h"}}, "release p - v0.0.0 -12\ntag p v0.0.0 h\n"}, {[]plan.Item{{Path: "p", Has: true, Level: math.MinInt}}, "release p v0.0.0 v0.0.0 -9223372036854775808\ntag p v0.0.0 \n"}, {[]plan.Item{{Path: "p", Level: math.MaxInt, Hash: "h"}}, "release p - v0.0.0 9223372036854775807\ntag p v0.0.0 h\n"},
		// A version that may not be has no text.
		{[]plan.Item{{Path: "p", Has: true, Old: odd, New: odd, Edits: []api.Req{{Path: "q", Ver: odd}}, Hash: "h"}}, "release p   0\nrequire q \ntag p  h\n"}, {[]plan.Item{{}}, "release  - v0.0.0 0\ntag  v0.0.0 \n"},
	} {
		if got := plan.Text(plan.Plan{Items: c.items, Ops: []api.Op{{Path: "x", Data: "y"}}}); got != c.want {
			t.Errorf("case %d: %q", i, got)
		}
	}
	f := three()
	p, e := plan.Make(f.list(), []bump.Want{{Path: "ex/b", Level: 2}})
	want := "release ex/a - v0.1.0 1\ntag ex/a v0.1.0 " + hash(f, "a") + "\nrelease ex/b - v0.1.0 2\nrequire ex/a v0.1.0\ntag ex/b v0.1.0 " + hash(f, "b") + "\nrelease ex/c - v0.1.0 1\nrequire ex/b v0.1.0\ntag ex/c v0.1.0 " + hash(f, "c") + "\n"
	if got := plan.Text(p); got != want || e != api.OK {
		t.Errorf("%q, %d", got, e)
	}
}

// made is a fleet in which nobody depends on himself, some of it released already, and some changed behind that.
func made(r *rand.Rand) fleet {
	f := fleet{"README": "none of theirs"}
	n := 1 + r.Intn(7)
	rank := r.Perm(n)
	dirs := []string{"", "a", "a/b", "a-b", "c/d", "e", "a/b/c"}
	for i := range n {
		text := "module m" + strconv.Itoa(i) + "\n"
		for j := range n {
			if rank[i] > rank[j] && r.Intn(3) == 0 {
				text += []string{"require m", "require   m", "require m"}[r.Intn(3)] + strconv.Itoa(j) + []string{" v0.0.1\n", " v0.1.0 // x\n", "  v1.0.0-rc.1+b\n"}[r.Intn(3)]
			}
		}
		f[in(dirs[i], "go.mod")] = text + []string{"", "exclude m0 v0.1.0\n", "require out v1.0.0\n"}[r.Intn(3)]
		if r.Intn(2) == 0 {
			f[in(dirs[i], "x.go")] = strconv.Itoa(r.Intn(3))
		}
	}
	for i := range n {
		if r.Intn(3) > 0 {
			f = f.tagged(dirs[i] + "@v" + strconv.Itoa(r.Intn(2)) + ".2.3" + []string{"", "-rc.1", "+x"}[r.Intn(3)])
		}
	}
	for i := range n {
		if r.Intn(5) == 0 {
			f[in(dirs[i], "y.go")] = "behind the tag"
		}
	}
	return f
}

// P19.2, P19.4: made-up fleets; a plan is what the chapter's words say, and what follows of them does.
func TestMade(t *testing.T) {
	r := rand.New(rand.NewSource(1))
	for range 1500 {
		f := made(r)
		var wants []bump.Want
		if r.Intn(2) == 0 {
			wants = append(wants, bump.Want{Path: pathOf(f, tree.Dirs(f.list())[0]), Level: 1 + r.Intn(2)})
		}
		got, e := plan.Make(f.list(), wants)
		repo, re := plan.Read(f.list())
		releases, be := bump.Releases(repo.Mods, repo.Tags, repo.Changed, wants)
		if re != api.OK || e != be || len(got.Items) != len(releases) {
			t.Fatalf("%v: %v, %d, %d, %d", f, got, e, re, be)
		}
		if len(got.Items) == 0 {
			if !isZero(got) {
				t.Fatalf("%v: %v", f, got)
			}
			continue
		}
		holds(t, f, repo, releases, got)
		follows(t, f, repo, got)
	}
}

// holds holds a plan against the chapter's words.
func holds(t *testing.T, f fleet, repo plan.Repo, releases []bump.Release, got plan.Plan) {
	t.Helper()
	after, tags := f.but(), repo.Tags
	for i, x := range releases {
		m := repo.Mods[x.At]
		edits := bump.Edits(repo.Mods, releases, x.At)
		if item := got.Items[i]; item.Dir != m.Dir || item.Path != m.Path || item.Has != x.Has || item.Old != x.Old || item.New != x.New || item.Level != x.Level || !slices.Equal(item.Edits, edits) {
			t.Fatalf("%v: %v, want %v, %v", f, item, x, edits)
		}
		text, _, e := edit.All(f[in(m.Dir, "go.mod")], edits)
		if e != api.OK {
			t.Fatalf("%v: %d", f, e)
		}
		after[in(m.Dir, "go.mod")] = text
	}
	for _, item := range got.Items {
		if item.Hash != hash(after, item.Dir) {
			t.Fatalf("%v: %v", f, item)
		}
		tags = append(tags, api.Tag{Path: item.Path, Ver: item.New, Hash: item.Hash})
	}
	text, e := ledger.Text(tags)
	after[tree.Ledger] = text
	if want := files.Diff(f.list(), after.list()); e != api.OK || !slices.Equal(got.Ops, want) {
		t.Fatalf("%v: %v, want %v", f, got.Ops, want)
	}
}

// follows holds what a plan makes of f against what follows.
func follows(t *testing.T, f fleet, repo plan.Repo, got plan.Plan) {
	t.Helper()
	after, e := files.Apply(f.list(), got.Ops)
	if e != api.OK {
		t.Fatalf("%v: %d", got.Ops, e)
	}
	then, e := plan.Read(after)
	if e != api.OK || len(then.Changed) != 0 || len(then.Tags) != len(repo.Tags)+len(got.Items) || !slices.Equal(then.Tags[:len(repo.Tags)], repo.Tags) {
		t.Fatalf("%v: %v, %d", f, then, e)
	}
	if next, e := plan.Make(after, nil); !isZero(next) || e != api.OK {
		t.Fatalf("%v: %v, %d", f, next, e)
	}
	version := regexp.MustCompile(`(?m)^(require +m\d+ +)\S+`)
	for _, op := range got.Ops {
		isItem := slices.ContainsFunc(got.Items, func(x plan.Item) bool { return in(x.Dir, "go.mod") == op.Path })
		if !isItem && op.Path != tree.Ledger || op.Gone {
			t.Fatalf("%v: %v", f, op)
		}
		if isItem && version.ReplaceAllString(op.Data, "$1") != version.ReplaceAllString(f[op.Path], "$1") {
			t.Fatalf("%q of %q", op.Data, f[op.Path])
		}
	}
	for _, x := range got.Items {
		m := then.Mods[slices.IndexFunc(then.Mods, func(m api.Mod) bool { return m.Dir == x.Dir })]
		for _, q := range m.Reqs {
			released := slices.ContainsFunc(got.Items, func(y plan.Item) bool { return y.Path == q.Path })
			if latest, _ := ledger.Latest(then.Tags, q.Path); released && q.Ver != latest.Ver {
				t.Fatalf("%v requires %v, and not %v", x, q, latest)
			}
		}
	}
	if _, e := graph.Order(then.Mods); e != api.OK {
		t.Fatalf("%v: %d", then, e)
	}
}

// R5, R6: what is told is memory of its own, what is handed in stays, and it is the same again.
func TestOwnMemory(t *testing.T) {
	f := three().tagged("a@v0.1.0").but("a/x.go=new")
	l, wants := slices.Grow(f.list(), 9), slices.Grow([]bump.Want{{Path: "ex/c", Level: 2}}, 9)
	first, e := plan.Make(l, wants)
	text := plan.Text(first)
	repo, re := plan.Read(l)
	if e != api.OK || re != api.OK || len(first.Items) != 3 {
		t.Fatalf("%v, %d, %v, %d", first, e, repo, re)
	}
	for range 2 {
		got, _ := plan.Make(l, wants)
		again, _ := plan.Read(l)
		if !samePlan(got, first) || !same(again, repo) || plan.Text(got) != text {
			t.Fatalf("%v is not %v", got, first)
		}
		for _, x := range got.Items {
			clear(x.Edits)
		}
		for _, m := range again.Mods {
			clear(m.Reqs)
		}
		clear(got.Items)
		clear(got.Ops)
		clear(again.Mods)
		clear(again.Tags)
		if !slices.Equal(l, f.list()) || !slices.Equal(wants, []bump.Want{{Path: "ex/c", Level: 2}}) {
			t.Fatalf("%v, %v", l, wants)
		}
	}
}
