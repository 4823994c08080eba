package stage_test

import (
	"math/rand"
	"slices"
	"strconv"
	"strings"
	"testing"

	"armada/api"
	"armada/files"
	"armada/stage"
	"armada/tree"
)

// of is files, each a path and its bytes, with an `=` between them, in the order of their paths.
func of(texts ...string) []api.File {
	var l []api.File
	for _, s := range texts {
		path, data, _ := strings.Cut(s, "=")
		l = append(l, api.File{Path: path, Data: data})
	}
	slices.SortFunc(l, func(a, b api.File) int { return strings.Compare(a.Path, b.Path) })
	return l
}

// ops are ops, each a path, an `=` and its bytes; or a `-`, and the path of what is gone.
func ops(texts ...string) []api.Op {
	var l []api.Op
	for _, s := range texts {
		path, data, has := strings.Cut(s, "=")
		if has {
			l = append(l, api.Op{Path: path, Data: data})
		} else {
			l = append(l, api.Op{Gone: true, Path: strings.TrimPrefix(s, "-")})
		}
	}
	return l
}

// encoded is the bytes of ops that have some.
func encoded(l []api.Op) string {
	s, e := files.Encode(l)
	if e != api.OK {
		panic("no bytes of ops: " + strconv.Itoa(int(e)))
	}
	return s
}

// staged is l, and an intent of these ops.
func staged(l []api.File, of []api.Op) []api.File { return with(l, tree.Intent, encoded(of)) }

// with is l, in which the file of a path has these bytes.
func with(l []api.File, path, data string) []api.File {
	out := slices.DeleteFunc(slices.Clone(l), func(f api.File) bool { return f.Path == path })
	out = append(out, api.File{Path: path, Data: data})
	slices.SortFunc(out, func(a, b api.File) int { return strings.Compare(a.Path, b.Path) })
	return out
}

// many are n files.
func many(n int) []api.File {
	var l []api.File
	for i := range n {
		l = with(l, "f"+strconv.Itoa(i), "x")
	}
	return l
}

// wrongLists are files that may not be, some with an intent.
func wrongLists() [][]api.File {
	in := api.File{Path: tree.Intent}
	return [][]api.File{
		many(api.MaxFiles + 1), with(many(api.MaxFiles), tree.Intent, ""),
		{{Path: "b"}, {Path: "a"}}, {{Path: "a"}, {Path: "a"}}, {in, in}, {{Path: "a"}, in}, {in, {Path: "a"}, {Path: "a"}},
		{{Path: ""}}, {in, {Path: "a/../b"}}, {in, {Path: strings.Repeat("x", api.MaxPath+1)}}, {{Path: "a", Data: strings.Repeat("x", api.MaxBytes+1)}}, {{Path: tree.Intent, Data: strings.Repeat("\x00", api.MaxBytes+1)}},
	}
}

// P20.1: one op, that puts the ops' bytes into the intent.
func TestBegin(t *testing.T) {
	long := "a=" + strings.Repeat("x", api.MaxBytes-5)
	for i, c := range []struct {
		l   []api.File
		ops []api.Op
	}{
		{nil, nil}, {of("a=1"), nil}, {of("a=1"), []api.Op{}}, {nil, ops("a=1")}, {of("a=1", "b=2"), ops("-a", "b=3", "c=")}, {nil, ops("a=1", "-a", "a=2")},
		{of("ledger.txt=x"), ops("ledger.txt=y")}, {nil, ops("ledger.txt=y", "-ledger.txt")}, {nil, ops("a/.intent=1", ".intent/x=2", ".intents=3", ".Intent=4")}, {nil, ops(long)}, {many(api.MaxFiles), ops("-f0", "a=1", "f1=")}, {many(api.MaxFiles - 1), ops("a=1")},
	} {
		got, e := stage.Begin(c.l, c.ops)
		if want := []api.Op{{Path: tree.Intent, Data: encoded(c.ops)}}; !slices.Equal(got, want) || e != api.OK {
			t.Errorf("case %d: %v, %d", i, got, e)
		}
	}
	if got, e := stage.Begin(of("a=1"), ops("b=xy", "-a")); !slices.Equal(got, []api.Op{{Path: ".intent", Data: "\x00\x01b\x00\x02xy\x01\x01a"}}) || e != api.OK {
		t.Errorf("%v, %d", got, e)
	}
}

// P20.1: what holds first.
func TestBeginErrors(t *testing.T) {
	data := strings.Repeat("x", api.MaxBytes)
	goneData := api.Op{Gone: true, Path: "a", Data: "x"}
	in := staged(of("a=1"), ops("a=2"))
	for i, c := range []struct {
		l    []api.File
		ops  []api.Op
		want api.Errno
	}{
		{in, nil, api.ErrStage}, {in, ops("-.intent"), api.ErrStage}, {in, ops("/=1"), api.ErrStage}, {of(".intent=no ops"), ops("a=1"), api.ErrStage}, {of(".intent="), ops("-x", ".intent=1"), api.ErrStage}, {staged(many(api.MaxFiles-1), nil), ops("a=1"), api.ErrStage}, {in, []api.Op{goneData}, api.ErrStage},
		{nil, ops(".intent=1"), api.ErrPath}, {nil, ops("-.intent"), api.ErrPath}, {of("a=1"), ops("-x", ".intent=1"), api.ErrPath}, {nil, ops("a="+data+"x", "-.intent"), api.ErrPath}, {many(api.MaxFiles), ops(".intent="), api.ErrPath}, {of("a=1"), append([]api.Op{goneData}, ops(".intent=")...), api.ErrPath}, {nil, ops("a=1", "b=1", ".intent=1", "/=1"), api.ErrPath},
		{nil, ops("/=1"), api.ErrPath}, {nil, ops("-/"), api.ErrPath}, {nil, ops("-x"), api.ErrNone}, {of("a=1"), ops("-a", "-a"), api.ErrNone}, {of("a=1"), ops("-x", "/=1"), api.ErrNone}, {nil, ops("a=" + data + "x"), api.ErrSize}, {many(api.MaxFiles), ops("a=1"), api.ErrFull}, {many(api.MaxFiles), ops("a="+data+"x", "-x"), api.ErrSize}, {many(api.MaxFiles - 1), ops("a=1", "b=1"), api.ErrFull},
		// Apply's errors stand ahead of Encode's.
		{of("a=1"), []api.Op{goneData}, api.ErrArg}, {of("a=1"), []api.Op{goneData, {Gone: true, Path: "x"}}, api.ErrNone}, {of("a=1"), append([]api.Op{goneData}, ops("b="+data, "c="+data, "-x")...), api.ErrNone}, {of("a=1"), append(ops("b="+data), goneData), api.ErrArg},
		{nil, ops("a=" + data), api.ErrSize}, {nil, ops("a=" + data[4:]), api.ErrSize}, {nil, ops("a="+data[5:], "b="), api.ErrSize}, {of("a=1"), ops("b="+data[5:], "-a"), api.ErrSize}, {nil, ops("b="+data, "-b"), api.ErrSize},
	} {
		if got, e := stage.Begin(c.l, c.ops); len(got) != 0 || e != c.want {
			t.Errorf("case %d: %v, %d, want %d", i, got, e, c.want)
		}
	}
	for i, l := range wrongLists() {
		for _, o := range [][]api.Op{nil, ops("a=1"), ops(".intent=1"), ops("/=1"), {goneData}} {
			if got, e := stage.Begin(l, o); len(got) != 0 || e != api.ErrArg {
				t.Errorf("list %d: %v, %d", i, got, e)
			}
		}
	}
}

// P20.2: the ops whose bytes the intent has.
func TestPending(t *testing.T) {
	for i, c := range [][]api.Op{nil, ops("a=1"), ops("-a", "b=2", "-b", "ledger.txt=x"), ops("-.intent"), ops(".intent=1"), ops("-x", "-x"), ops("a=" + strings.Repeat("x", api.MaxBytes-5))} {
		for _, l := range [][]api.File{nil, of("a=1"), many(api.MaxFiles - 1)} {
			if got, e := stage.Pending(staged(l, c)); !slices.Equal(got, c) || e != api.OK {
				t.Errorf("case %d: %v, %d", i, got, e)
			}
		}
	}
	for _, l := range [][]api.File{nil, of("a=1", "a/.intent=", ".intents="), many(api.MaxFiles)} {
		if got, e := stage.Pending(l); len(got) != 0 || e != api.ErrNone {
			t.Errorf("%v, %d", got, e)
		}
	}
	for _, s := range wrongIntents() {
		if got, e := stage.Pending(of("a=1", ".intent="+s)); len(got) != 0 || e != api.ErrArg {
			t.Errorf("%v: %v, %d", s, got, e)
		}
	}
	for i, l := range wrongLists() {
		if got, e := stage.Pending(l); len(got) != 0 || e != api.ErrArg {
			t.Errorf("list %d: %v, %d", i, got, e)
		}
	}
}

// wrongIntents are bytes of no ops.
func wrongIntents() []string {
	good := encoded(ops("a=1", "-a"))
	return []string{"x", "\x02\x01a", "\x00", good[:len(good)-1], good + "\x00", "\x01\x01/", "\x00\x00\x00\x00", good[:5], strings.Repeat("x", api.MaxBytes)}
}

// P20.2: those ops, and then the intent gone.
func TestFinish(t *testing.T) {
	end := ops("-.intent")
	for i, c := range []struct {
		l   []api.File
		ops []api.Op
	}{
		{nil, nil}, {of("a=1"), ops("a=2")}, {of("a=1"), ops("-a", "b=2", "ledger.txt=x")}, {nil, ops("a=1", "-a")}, {many(api.MaxFiles - 1), ops("f0=1")}, {many(api.MaxFiles - 1), ops("-f0", "a=1")}, {nil, ops(".intent=1")}, {nil, ops("-.intent", ".intent=")},
		{many(api.MaxFiles - 2), ops("a=1")},
	} {
		if got, e := stage.Finish(staged(c.l, c.ops)); !slices.Equal(got, slices.Concat(c.ops, end)) || e != api.OK {
			t.Errorf("case %d: %v, %d", i, got, e)
		}
	}
	for i, c := range []struct {
		l    []api.File
		want api.Errno
	}{
		{nil, api.ErrNone}, {of("a=1"), api.ErrNone}, {staged(nil, ops("-a")), api.ErrNone}, {staged(of("a=1"), ops("-a", "-a")), api.ErrNone}, {staged(of("a=1"), ops("-.intent")), api.ErrNone},
		// The intent is a file among the others till it is gone.
		{staged(many(api.MaxFiles-1), ops("a=1")), api.ErrFull}, {staged(many(api.MaxFiles-1), ops("a=1", "-x")), api.ErrFull}, {staged(many(api.MaxFiles-1), ops("-x", "a=1")), api.ErrNone}, {staged(many(api.MaxFiles-2), ops("a=1", "b=2")), api.ErrFull},
	} {
		if got, e := stage.Finish(c.l); len(got) != 0 || e != c.want {
			t.Errorf("case %d: %v, %d, want %d", i, got, e, c.want)
		}
	}
	for _, s := range wrongIntents() {
		if got, e := stage.Finish(of("a=1", ".intent="+s)); len(got) != 0 || e != api.ErrArg {
			t.Errorf("%v: %v, %d", s, got, e)
		}
	}
	for i, l := range wrongLists() {
		if got, e := stage.Finish(l); len(got) != 0 || e != api.ErrArg {
			t.Errorf("list %d: %v, %d", i, got, e)
		}
	}
}

// P20.2: the intent is gone, whatever it has.
func TestUndo(t *testing.T) {
	for _, l := range [][]api.File{staged(nil, nil), staged(of("a=1"), ops("-a")), staged(nil, ops("-x")), staged(many(api.MaxFiles-1), ops("a=1")), of(".intent=no ops"), of("a=1", ".intent=")} {
		if got, e := stage.Undo(l); !slices.Equal(got, []api.Op{{Gone: true, Path: ".intent"}}) || e != api.OK {
			t.Errorf("%v: %v, %d", l, got, e)
		}
	}
	for _, l := range [][]api.File{nil, of("a=1", "a/.intent=", "x.intent="), many(api.MaxFiles)} {
		if got, e := stage.Undo(l); len(got) != 0 || e != api.ErrNone {
			t.Errorf("%v: %v, %d", l, got, e)
		}
	}
	for i, l := range wrongLists() {
		if got, e := stage.Undo(l); len(got) != 0 || e != api.ErrArg {
			t.Errorf("list %d: %v, %d", i, got, e)
		}
	}
}

// P20.3: all but the intent.
func TestSeen(t *testing.T) {
	for _, l := range [][]api.File{nil, of("a=1"), of("ledger.txt=x", "a/.intent=1", ".intents=2", ".inten=3"), many(api.MaxFiles - 1)} {
		if got := stage.Seen(l); !slices.Equal(got, l) {
			t.Errorf("%v", got)
		}
		if got := stage.Seen(staged(l, ops("a=1"))); !slices.Equal(got, l) {
			t.Errorf("%v", got)
		}
	}
	if got := stage.Seen(many(api.MaxFiles)); !slices.Equal(got, many(api.MaxFiles)) {
		t.Errorf("%v", got)
	}
	for i, l := range wrongLists() {
		if got := stage.Seen(l); len(got) != 0 {
			t.Errorf("list %d: %v", i, got)
		}
	}
}

// P20.3: what holds first.
func TestAllowed(t *testing.T) {
	data := strings.Repeat("x", api.MaxBytes)
	in := staged(of("a=1"), ops("a=2"))
	for i, c := range []struct {
		l    []api.File
		ops  []api.Op
		want api.Errno
	}{
		{nil, nil, api.OK}, {of("a=1"), ops("-a", "b=2", "a/ledger.txt=", "ledger.txt/x=", ".intent/x=", "a/.intent="), api.OK}, {of("ledger.txt=x"), ops("a=1"), api.OK}, {many(api.MaxFiles), ops("-f0", "a=1"), api.OK},
		// What is too long to be encoded may be applied.
		{nil, ops("a="+data, "b="+data), api.OK}, {of("a=1"), []api.Op{{Gone: true, Path: "a", Data: "x"}}, api.OK},
		{in, nil, api.ErrStage}, {in, ops("ledger.txt=x"), api.ErrStage}, {in, ops("-.intent"), api.ErrStage}, {in, ops("-x"), api.ErrStage}, {of(".intent=no ops"), ops("a=1"), api.ErrStage}, {of(".intent="), nil, api.ErrStage},
		{nil, ops(".intent=1"), api.ErrPath}, {nil, ops("-.intent"), api.ErrPath}, {nil, ops("ledger.txt=1"), api.ErrPath}, {of("ledger.txt=x"), ops("-ledger.txt"), api.ErrPath}, {nil, ops("-ledger.txt"), api.ErrPath}, {nil, ops("a=1", "-x", "ledger.txt=1"), api.ErrPath}, {nil, ops("a="+data+"x", ".intent=1"), api.ErrPath}, {many(api.MaxFiles), ops("ledger.txt=1"), api.ErrPath}, {many(api.MaxFiles), ops("a=1", ".intent=1"), api.ErrPath},
		{nil, ops("/=1"), api.ErrPath}, {nil, ops("-/"), api.ErrPath}, {nil, ops("-x", "/=1"), api.ErrNone}, {of("a=1"), ops("-a", "-a"), api.ErrNone}, {nil, ops("a=" + data + "x"), api.ErrSize}, {many(api.MaxFiles), ops("a=1"), api.ErrFull}, {many(api.MaxFiles), ops("a=" + data + "x"), api.ErrSize},
	} {
		if e := stage.Allowed(c.l, c.ops); e != c.want {
			t.Errorf("case %d: %d, want %d", i, e, c.want)
		}
	}
	for i, l := range wrongLists() {
		for _, o := range [][]api.Op{nil, ops("a=1"), ops(".intent=1"), ops("ledger.txt=1"), ops("/=1")} {
			if e := stage.Allowed(l, o); e != api.ErrArg {
				t.Errorf("list %d: %d", i, e)
			}
		}
	}
}

// made is files and ops, that mostly may be applied.
func made(r *rand.Rand) ([]api.File, []api.Op) {
	var l []api.File
	var o []api.Op
	path := func() string { return []string{"a", "a/b", "b", "c/go.mod", tree.Ledger, "z"}[r.Intn(6)] }
	for range r.Intn(6) {
		l = with(l, path(), strconv.Itoa(r.Intn(9)))
	}
	for range r.Intn(6) {
		if p := path(); r.Intn(3) > 0 {
			o = append(o, api.Op{Path: p, Data: strconv.Itoa(r.Intn(9))})
		} else {
			o = append(o, api.Op{Gone: true, Path: p})
		}
	}
	return l, o
}

// P20.4: what is begun and finished is what the ops do; what is begun and undone is as it was.
func TestMade(t *testing.T) {
	r := rand.New(rand.NewSource(1))
	for range 20000 {
		l, o := made(r)
		want, wrong := files.Apply(l, o)
		begin, e := stage.Begin(l, o)
		if e != wrong {
			t.Fatalf("%v, %v: %d, want %d", l, o, e, wrong)
		}
		if e != api.OK {
			continue
		}
		during := apply(t, l, begin)
		if again, e := stage.Begin(during, o); len(again) != 0 || e != api.ErrStage || stage.Allowed(during, o) != api.ErrStage {
			t.Fatalf("%v: %v, %d", during, again, e)
		}
		if pending, e := stage.Pending(during); !slices.Equal(pending, o) || e != api.OK {
			t.Fatalf("%v: %v, %d", during, pending, e)
		}
		if !files.Same(stage.Seen(during), l) {
			t.Fatalf("%v is not %v", stage.Seen(during), l)
		}
		finish, e := stage.Finish(during)
		if got := apply(t, during, finish); !files.Same(got, want) || e != api.OK {
			t.Fatalf("%v, %v: %v, %d", l, o, got, e)
		}
		undo, e := stage.Undo(during)
		if got := apply(t, during, undo); !files.Same(got, l) || e != api.OK {
			t.Fatalf("%v, %v: %v, %d", l, o, got, e)
		}
	}
}

// apply is what comes of l by ops that may be applied.
func apply(t *testing.T, l []api.File, o []api.Op) []api.File {
	t.Helper()
	after, e := files.Apply(l, o)
	if e != api.OK {
		t.Fatalf("%v, %v: %d", l, o, e)
	}
	return after
}

// R5, R6: what is told is memory of its own, what is handed in stays, and it is the same again.
func TestOwnMemory(t *testing.T) {
	l := slices.Grow(of("a=1", "b=2"), 9)
	in := staged(of("a=1"), ops("a=2", "-a"))
	todo := slices.Grow(ops("a=2", "-b"), 9)
	for range 2 {
		begin, _ := stage.Begin(l, todo)
		pending, _ := stage.Pending(in)
		finish, _ := stage.Finish(in)
		undo, _ := stage.Undo(in)
		seen, all := stage.Seen(in), stage.Seen(l)
		if len(begin) != 1 || len(pending) != 2 || len(finish) != 3 || len(undo) != 1 || !slices.Equal(seen, of("a=1")) || !slices.Equal(all, l) || stage.Allowed(l, todo) != api.OK {
			t.Fatalf("%v, %v, %v, %v, %v, %v", begin, pending, finish, undo, seen, all)
		}
		for _, o := range [][]api.Op{begin, pending, finish, undo} {
			clear(o)
		}
		clear(seen)
		clear(all)
		if !slices.Equal(l, of("a=1", "b=2")) || !slices.Equal(in, staged(of("a=1"), ops("a=2", "-a"))) || !slices.Equal(todo, ops("a=2", "-b")) {
			t.Fatalf("%v, %v, %v", l, in, todo)
		}
		if beyond := todo[:3]; beyond[2] != (api.Op{}) {
			t.Fatalf("%v", beyond)
		}
	}
}
