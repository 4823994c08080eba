package orch_test

import (
	"math"
	"math/rand"
	"slices"
	"strconv"
	"strings"
	"testing"

	"armada/api"
	"armada/audit"
	"armada/bump"
	"armada/disk"
	"armada/files"
	"armada/journal"
	"armada/orch"
	"armada/plan"
	"armada/stage"
	"armada/tree"
	"armada/vault"
)

// kinds are those of all commands.
func kinds() []int {
	return []int{orch.Edit, orch.Plan, orch.Release, orch.Resume, orch.Rollback, orch.Status, orch.Verify}
}

// ops are ops, each a path, an `=` and its bytes; or a `-`, and the path of what is gone.
func ops(texts ...string) []api.Op {
	var l []api.Op
	for _, s := range texts {
		path, data, has := strings.Cut(s, "=")
		if has {
			l = append(l, api.Op{Path: path, Data: data})
		} else {
			l = append(l, api.Op{Gone: true, Path: strings.TrimPrefix(s, "-")})
		}
	}
	return l
}

// edit is a command that does these ops.
func edit(texts ...string) orch.Cmd { return orch.Cmd{Kind: orch.Edit, Ops: ops(texts...)} }

// want is a command of a kind that wants modules, each a path, an `@` and a level.
func want(kind int, texts ...string) orch.Cmd {
	c := orch.Cmd{Kind: kind}
	for _, s := range texts {
		path, level, _ := strings.Cut(s, "@")
		n, _ := strconv.Atoi(level)
		c.Wants = append(c.Wants, bump.Want{Path: path, Level: n})
	}
	return c
}

// ran is d, with which acts are done that may be.
func ran(d api.Disk, acts []api.Act) api.Disk {
	after, e := disk.Run(d, acts, len(acts))
	if e != api.OK {
		panic("acts that may not be done: " + strconv.Itoa(int(e)))
	}
	return after
}

// empty is a disk of n sectors, without files.
func empty(n int) api.Disk {
	d, _ := disk.New(n)
	acts, e := vault.Format(n)
	if e != api.OK {
		panic("no disk of " + strconv.Itoa(n) + " sectors")
	}
	return ran(d, acts)
}

// with is d, of which the files are changed, whatever commands may do: one commit an op.
func with(d api.Disk, texts ...string) api.Disk {
	for _, op := range ops(texts...) {
		acts, e := vault.Commit(d, []api.Op{op})
		if e != api.OK {
			panic(op.Path + " is not done: " + strconv.Itoa(int(e)))
		}
		d = ran(d, acts)
	}
	return d
}

// of is a disk of the most sectors, with these files.
func of(texts ...string) api.Disk { return with(empty(api.MaxSectors), texts...) }

// after is d behind commands that tell no error.
func after(t *testing.T, d api.Disk, l ...orch.Cmd) api.Disk {
	t.Helper()
	for _, c := range l {
		acts, _, e := orch.Do(d, c)
		if e != api.OK {
			t.Fatalf("%v: %d", c, e)
		}
		d = ran(d, acts)
	}
	return d
}

// all is the files of d, the intent among them.
func all(d api.Disk) []api.File {
	v, e := vault.Mount(d)
	if e != api.OK {
		panic("no files on a disk: " + strconv.Itoa(int(e)))
	}
	return v.Files
}

// encoded is the bytes of ops that have some.
func encoded(l []api.Op) string {
	s, e := files.Encode(l)
	if e != api.OK {
		panic("no bytes of ops: " + strconv.Itoa(int(e)))
	}
	return s
}

// two are files of two modules, of which ex/b requires ex/a.
func two() []string {
	return []string{"a/go.mod=module ex/a\n", "b/go.mod=module ex/b\nrequire ex/a v0.0.1\n", "README=none of theirs\n"}
}

// many are n files that are of no module.
func many(n int) []string {
	var l []string
	for i := range n {
		l = append(l, "f"+strconv.Itoa(i)+"=")
	}
	return l
}

// staged is d, on which these ops are staged.
func staged(d api.Disk, l []api.Op) api.Disk { return with(d, tree.Intent+"="+encoded(l)) }

// planned is what a release of the files of d does.
func planned(t *testing.T, d api.Disk, wants ...bump.Want) plan.Plan {
	t.Helper()
	p, e := plan.Make(all(d), wants)
	if e != api.OK || len(p.Items) == 0 {
		t.Fatalf("%v, %d", p, e)
	}
	return p
}

// isNothing tells whether nothing is told but e.
func isNothing(acts []api.Act, text string, e, want api.Errno) bool {
	return len(acts) == 0 && text == "" && e == want
}

// wrongDisk is a disk, and the error that vault.Mount tells of it.
type wrongDisk struct {
	d    api.Disk
	want api.Errno
}

func wrongDisks() []wrongDisk {
	blank, _ := disk.New(64)
	short, _ := disk.New(7)
	odd := empty(64)
	odd.Sectors[60] = "short"
	beyond := empty(64)
	beyond.Cache = []api.Write{{At: 64, Data: strings.Repeat("\x00", api.Sector)}}
	// What stands in a log may be no ops, or ops that may not be done.
	broken := func(item string) api.Disk {
		d, r := empty(64), journal.Region{From: 0, Size: 32}
		log, _ := journal.Open(d, r)
		acts, _ := journal.Add(r, log, item)
		return ran(d, acts)
	}
	return []wrongDisk{{api.Disk{}, api.ErrArg}, {short, api.ErrArg}, {odd, api.ErrArg}, {beyond, api.ErrArg}, {blank, api.ErrNone}, {broken("x"), api.ErrSum}, {broken("\x01\x01a"), api.ErrSum}}
}

// P22.1: the disk's error stands ahead of the command's.
func TestDoWrongDisk(t *testing.T) {
	for i, w := range wrongDisks() {
		for _, kind := range append(kinds(), -1, 7) {
			c := orch.Cmd{Kind: kind, Ops: ops("-x", "/=1"), Wants: []bump.Want{{Path: "ex/x", Level: 9}}}
			if acts, text, e := orch.Do(w.d, c); !isNothing(acts, text, e, w.want) {
				t.Errorf("disk %d: %v: %v, %q, %d", i, c, acts, text, e)
			}
		}
	}
}

// P22.1: the kinds, and that there are no others.
func TestDoKinds(t *testing.T) {
	for i, kind := range kinds() {
		if kind != i {
			t.Errorf("%d: %d", i, kind)
		}
	}
	d := of(two()...)
	for _, d := range []api.Disk{empty(8), d, staged(d, nil)} {
		for _, kind := range []int{-1, 7, 8, 256, 1 << 32, math.MinInt, math.MaxInt} {
			if acts, text, e := orch.Do(d, orch.Cmd{Kind: kind, Ops: ops("-x"), Wants: []bump.Want{{}}}); !isNothing(acts, text, e, api.ErrArg) {
				t.Errorf("%d: %v, %q, %d", kind, acts, text, e)
			}
		}
	}
}

// P22.1: ops are committed, if they are allowed.
func TestEdit(t *testing.T) {
	d := of(two()...)
	for i, c := range []orch.Cmd{edit(), edit("x=1"), edit("-a/go.mod", "a=x", "b/go.mod="), edit("x=1", "-x"), edit("a/ledger.txt=", ".intents=", ".intent/x="), {Kind: orch.Edit, Ops: ops("x=1"), Wants: []bump.Want{{Path: "ex/x"}}}} {
		for _, d := range []api.Disk{d, with(d, "ledger.txt=no ledger"), {Sectors: d.Sectors, Cache: []api.Write{{At: 200, Data: d.Sectors[200]}}}} {
			want, we := vault.Commit(d, c.Ops)
			acts, text, e := orch.Do(d, c)
			if !slices.Equal(acts, want) || text != "" || e != api.OK || we != api.OK || len(acts) == 0 {
				t.Fatalf("case %d: %v, %q, %d", i, acts, text, e)
			}
			then, _ := files.Apply(all(d), c.Ops)
			if got := all(ran(d, acts)); !files.Same(got, then) {
				t.Errorf("case %d: %v", i, got)
			}
		}
	}
}

// P22.1: what is not allowed, and then what may not be committed.
func TestEditErrors(t *testing.T) {
	d := of(two()...)
	long := strings.Repeat("x", api.MaxBytes)
	in := staged(d, ops("x=1"))
	last := with(ran(empty(8), []api.Act{{At: 0, Data: headOf(api.MaxGen)}, {Flush: true}}), "x=1")
	for i, c := range []struct {
		d    api.Disk
		c    orch.Cmd
		want api.Errno
	}{
		{in, edit(), api.ErrStage}, {in, edit("ledger.txt="), api.ErrStage}, {in, edit("-.intent"), api.ErrStage}, {in, edit("-x"), api.ErrStage}, {with(d, ".intent=no ops"), edit("x=1"), api.ErrStage},
		{d, edit("ledger.txt="), api.ErrPath}, {d, edit(".intent="), api.ErrPath}, {with(d, "ledger.txt="), edit("-ledger.txt"), api.ErrPath}, {d, edit("-x", "ledger.txt="), api.ErrPath}, {d, edit("/="), api.ErrPath}, {d, edit("-x", "/="), api.ErrNone}, {d, edit("x=" + long + "x"), api.ErrSize}, {of(many(api.MaxFiles)...), edit("x=1"), api.ErrFull},
		{d, edit("x=" + long), api.ErrSize}, {d, edit("x="+long[9:], "y=1"), api.ErrSize}, {d, orch.Cmd{Ops: []api.Op{{Gone: true, Path: "README", Data: "x"}}}, api.ErrArg},
		// The disk is too small, or too old.
		{empty(8), edit("x=" + long[:100]), api.ErrFull}, {with(empty(8), "x=1"), edit("y=" + long[:60]), api.ErrFull}, {last, edit("x=2", "y=3"), api.ErrOver}, {with(d, "x="+long[9:]), edit("y="+long[9:], "-a/go.mod"), api.ErrSize},
	} {
		if acts, text, e := orch.Do(c.d, c.c); !isNothing(acts, text, e, c.want) {
			t.Errorf("case %d: %v, %q, %d, want %d", i, acts, text, e, c.want)
		}
	}
}

// headOf is the sector that begins a log of a generation.
func headOf(gen int) string {
	acts, e := journal.Start(journal.Region{From: 0, Size: 4}, gen)
	if e != api.OK {
		panic("no log of generation " + strconv.Itoa(gen))
	}
	return acts[0].Data
}

// P22.1: the plan's text, and no acts.
func TestPlan(t *testing.T) {
	d := of(two()...)
	first := "release ex/a - v0.1.0 1\ntag ex/a v0.1.0 "
	for i, c := range []orch.Cmd{want(orch.Plan), want(orch.Plan, "ex/b@3", "ex/a@1"), {Kind: orch.Plan, Ops: ops("-x")}} {
		acts, text, e := orch.Do(d, c)
		if len(acts) != 0 || text != plan.Text(planned(t, d, c.Wants...)) || !strings.HasPrefix(text, first) || e != api.OK {
			t.Errorf("case %d: %v, %q, %d", i, acts, text, e)
		}
	}
	for i, d := range []api.Disk{empty(8), of("x=1"), after(t, d, want(orch.Release))} {
		if acts, text, e := orch.Do(d, want(orch.Plan)); !isNothing(acts, text, e, api.OK) {
			t.Errorf("case %d: %v, %q, %d", i, acts, text, e)
		}
	}
	// A plan needs no room, and tells none of what a release of it comes to.
	for i, d := range []api.Disk{tight(), of(append(two(), many(api.MaxFiles-4)...)...), of(append(two(), many(api.MaxFiles-5)...)...)} {
		if acts, text, e := orch.Do(d, want(orch.Plan)); len(acts) != 0 || text != plan.Text(planned(t, d)) || e != api.OK {
			t.Errorf("case %d: %v, %q, %d", i, acts, text, e)
		}
	}
}

// tight is a disk whose half has no room for another file.
func tight() api.Disk { return with(empty(16), "go.mod=module "+strings.Repeat("x", 50)) }

// P22.1: Plan and Release: what is staged, and then what is wrong with the plan.
func TestPlanErrors(t *testing.T) {
	d := of(two()...)
	for _, kind := range []int{orch.Plan, orch.Release} {
		for i, c := range []struct {
			d    api.Disk
			c    orch.Cmd
			want api.Errno
		}{
			{staged(d, nil), want(kind), api.ErrStage}, {staged(d, ops("-x")), want(kind, "ex/x@9"), api.ErrStage}, {with(d, ".intent=no ops"), want(kind), api.ErrStage}, {with(d, "a/go.mod=", ".intent="), want(kind), api.ErrStage}, {of(".intent="), want(kind), api.ErrStage},
			{with(d, "a/go.mod="), want(kind, "ex/x@9"), api.ErrNone}, {with(d, "a/go.mod=modul"), want(kind), api.ErrLine}, {with(d, "ledger.txt=x"), want(kind), api.ErrLine}, {with(d, "a/go.mod=module ex/b"), want(kind), api.ErrTwice}, {with(d, "a/go.mod=module ex/a\nrequire ex/b v0.1.0"), want(kind), api.ErrCycle},
			{d, want(kind, "ex/x@1"), api.ErrNone}, {d, want(kind, "ex/a@0"), api.ErrArg}, {d, want(kind, "ex/a@4"), api.ErrArg}, {d, want(kind, "ex/a@1", "ex/a@2"), api.ErrTwice}, {of(append(two(), many(api.MaxFiles-3)...)...), want(kind), api.ErrFull},
		} {
			if acts, text, e := orch.Do(c.d, c.c); !isNothing(acts, text, e, c.want) {
				t.Errorf("kind %d, case %d: %v, %q, %d, want %d", kind, i, acts, text, e, c.want)
			}
		}
	}
}

// P22.1: what is planned is staged, and then done; both are told as one.
func TestRelease(t *testing.T) {
	d := of(two()...)
	for i, c := range []orch.Cmd{want(orch.Release), want(orch.Release, "ex/b@3"), {Kind: orch.Release, Ops: ops("-x")}} {
		for _, d := range []api.Disk{d, after(t, d, want(orch.Release), edit("a/x=new")), with(empty(32), two()...)} {
			p := planned(t, d, c.Wants...)
			begin, be := vault.Commit(d, []api.Op{{Path: tree.Intent, Data: encoded(p.Ops)}})
			finish, fe := vault.Commit(ran(d, begin), append(slices.Clone(p.Ops), ops("-.intent")...))
			acts, text, e := orch.Do(d, c)
			if !slices.Equal(acts, slices.Concat(begin, finish)) || text != plan.Text(p) || e != api.OK || be != api.OK || fe != api.OK {
				t.Fatalf("case %d: %v, %q, %d, %d, %d", i, acts, text, e, be, fe)
			}
			then, _ := files.Apply(all(d), p.Ops)
			if got := all(ran(d, acts)); !files.Same(got, then) {
				t.Errorf("case %d: %v", i, got)
			}
		}
	}
	for i, d := range []api.Disk{empty(8), of("x=1"), after(t, d, want(orch.Release)), after(t, d, want(orch.Release), edit("README=new"))} {
		if acts, text, e := orch.Do(d, want(orch.Release)); !isNothing(acts, text, e, api.OK) {
			t.Errorf("case %d: %v, %q, %d", i, acts, text, e)
		}
	}
}

// ledgerOf is a ledger of n bytes.
func ledgerOf(n int) string {
	tail := " v0.1.0 h1:" + strings.Repeat("A", 43) + "=\n"
	lines := n/(api.MaxPath+len(tail)) + 1
	var s string
	for i := range lines {
		size := n / lines
		if i < n%lines {
			size++
		}
		head := strconv.Itoa(i)
		s += head + strings.Repeat("y", size-len(head)-len(tail)) + tail
	}
	return s
}

// P22.1: the first error of all that a release does; of what was begun nothing is told.
func TestReleaseErrors(t *testing.T) {
	mod := "a/go.mod=module ex/a\n"
	line := len("ex/a v0.1.0 h1:\n") + 44
	ledger := func(room int) api.Disk {
		return of(mod, tree.Ledger+"="+ledgerOf(api.MaxBytes-line-room))
	}
	for i, c := range []struct {
		d    api.Disk
		want api.Errno
	}{
		// The ledger's op is 14 bytes longer than the ledger, and the intent's 11 more: first the one may not be begun, then the other not be committed.
		{ledger(-1), api.ErrSize}, {ledger(0), api.ErrSize}, {ledger(13), api.ErrSize}, {ledger(14), api.ErrSize}, {ledger(14 + 10), api.ErrSize},
		// The intent is a file more, and while it is there, the ledger too.
		{of(append(many(api.MaxFiles-2), mod, "ledger.txt=")...), api.ErrFull}, {of(append(many(api.MaxFiles-2), mod)...), api.ErrFull},
		{tight(), api.ErrFull},
	} {
		p := orch.Cmd{Kind: orch.Plan}
		if _, text, e := orch.Do(c.d, p); i > 0 && (e != api.OK || text == "") {
			t.Errorf("case %d: %q, %d", i, text, e)
		}
		if acts, text, e := orch.Do(c.d, want(orch.Release)); !isNothing(acts, text, e, c.want) {
			t.Errorf("case %d: %v, %q, %d, want %d", i, acts, text, e, c.want)
		}
	}
	for i, d := range []api.Disk{of(append(many(api.MaxFiles-3), mod, "ledger.txt=")...), of(append(many(api.MaxFiles-3), mod)...)} {
		if acts, text, e := orch.Do(d, want(orch.Release)); len(acts) == 0 || text == "" || e != api.OK {
			t.Errorf("case %d: %v, %q, %d", i, acts, text, e)
		}
	}
}

// crowded is a disk whose half has room for what begins a release, but not for what ends it; and whose files are then too long to be laid into the other half.
func crowded() api.Disk {
	long := strings.Repeat("x", 2000)
	d := of("a/go.mod=module ex/a\n", "x="+long, "y="+long)
	for vault.Free(d) > 7 {
		d = with(d, "z=1")
	}
	return d
}

// P22.1: what may be begun, but not be finished, is not begun.
func TestReleaseRoom(t *testing.T) {
	d := crowded()
	p := planned(t, d)
	begin, e := vault.Commit(d, []api.Op{{Path: tree.Intent, Data: encoded(p.Ops)}})
	if e != api.OK || len(begin) == 0 {
		t.Fatalf("%v, %d", begin, e)
	}
	if acts, text, e := orch.Do(d, want(orch.Release)); !isNothing(acts, text, e, api.ErrSize) {
		t.Errorf("%v, %q, %d", acts, text, e)
	}
	var none, whole int
	for n := 24; n < 80; n++ {
		d := with(empty(n), append(two(), "x="+strings.Repeat("x", 200))...)
		p := planned(t, d)
		acts, text, e := orch.Do(d, want(orch.Release))
		if e == api.OK {
			whole++
			if then, _ := files.Apply(all(d), p.Ops); text != plan.Text(p) || !files.Same(all(ran(d, acts)), then) {
				t.Errorf("%d sectors: %q", n, text)
			}
			continue
		}
		if none++; !isNothing(acts, text, e, api.ErrFull) {
			t.Errorf("%d sectors: %v, %q, %d", n, acts, text, e)
		}
	}
	if none == 0 || whole == 0 {
		t.Errorf("%d, %d", none, whole)
	}
}

// P22.1: what is staged is done, or is gone.
func TestResumeRollback(t *testing.T) {
	d := of(two()...)
	for i, l := range [][]api.Op{nil, ops("x=1"), ops("-a/go.mod", "ledger.txt=x", "README="), ops(".intent=1"), ops("x=1", "-x")} {
		in := staged(d, l)
		end := ops("-.intent")
		for _, c := range []struct {
			kind int
			ops  []api.Op
		}{{orch.Resume, slices.Concat(l, end)}, {orch.Rollback, end}} {
			want, we := vault.Commit(in, c.ops)
			acts, text, e := orch.Do(in, orch.Cmd{Kind: c.kind, Ops: ops("-x"), Wants: []bump.Want{{}}})
			if !slices.Equal(acts, want) || text != "" || e != api.OK || we != api.OK {
				t.Fatalf("case %d: %v, %q, %d", i, acts, text, e)
			}
			then, _ := files.Apply(all(in), c.ops)
			if got := all(ran(in, acts)); !files.Same(got, then) {
				t.Errorf("case %d: %v", i, got)
			}
		}
	}
}

// P22.1: what stage tells, and then what may not be committed.
func TestResumeRollbackErrors(t *testing.T) {
	d := of(two()...)
	for i, c := range []struct {
		d                api.Disk
		resume, rollback api.Errno
	}{
		{d, api.ErrNone, api.ErrNone}, {empty(8), api.ErrNone, api.ErrNone}, {with(d, ".intents=", "a/.intent="), api.ErrNone, api.ErrNone}, {with(d, ".intent=no ops"), api.ErrArg, api.OK}, {staged(d, ops("-x")), api.ErrNone, api.OK}, {staged(d, ops("-.intent")), api.ErrNone, api.OK}, {staged(of(many(api.MaxFiles-1)...), ops("x=1")), api.ErrFull, api.OK},
		{staged(d, ops("x="+strings.Repeat("x", api.MaxBytes-20))), api.ErrSize, api.OK}, {staged(d, ops("x="+strings.Repeat("x", api.MaxBytes-200))), api.OK, api.OK},
	} {
		if acts, text, e := orch.Do(c.d, orch.Cmd{Kind: orch.Resume}); text != "" || e != c.resume || (len(acts) == 0) != (e != api.OK) {
			t.Errorf("case %d: %v, %q, %d, want %d", i, acts, text, e, c.resume)
		}
		if acts, text, e := orch.Do(c.d, orch.Cmd{Kind: orch.Rollback}); text != "" || e != c.rollback || (len(acts) == 0) != (e != api.OK) {
			t.Errorf("case %d: %v, %q, %d, want %d", i, acts, text, e, c.rollback)
		}
	}
}

// P22.1: how modules stand, and whether something is staged.
func TestStatus(t *testing.T) {
	d := of(two()...)
	now := after(t, d, want(orch.Release), edit("b/x=new"))
	for i, c := range []struct {
		d    api.Disk
		want string
		e    api.Errno
	}{
		{empty(8), "", api.OK}, {of("x=1"), "", api.OK}, {d, "ex/a - changed\nex/b - changed\n", api.OK}, {now, "ex/a v0.1.0 same\nex/b v0.1.0 changed\n", api.OK},
		{of(".intent="), "staged\n", api.OK}, {of(".intent=no ops"), "staged\n", api.OK}, {staged(d, ops("a/x=1")), "staged\nex/a - changed\nex/b - changed\n", api.OK}, {staged(now, nil), "staged\nex/a v0.1.0 same\nex/b v0.1.0 changed\n", api.OK}, {with(d, ".intents=", "a/.intent="), "ex/a - changed\nex/b - changed\n", api.OK},
		// Who is late is told by none but Verify.
		{after(t, d, want(orch.Release), edit("a/x=new"), want(orch.Release), edit("b/go.mod=module ex/b\nrequire ex/a v0.1.0\n")), "ex/a v0.1.1 same\nex/b v0.1.1 changed\n", api.OK},
		{with(d, "a/go.mod="), "", api.ErrNone}, {with(d, "ledger.txt=x"), "", api.ErrLine}, {with(d, "ledger.txt=x", ".intent="), "", api.ErrLine}, {with(d, "a/go.mod=module ex/b"), "", api.ErrTwice}, {with(d, "a/go.mod=module ex/a\nrequire ex/a v0.1.0", ".intent="), "", api.ErrCycle},
	} {
		acts, text, e := orch.Do(c.d, orch.Cmd{Kind: orch.Status, Ops: ops("-x"), Wants: []bump.Want{{}}})
		if len(acts) != 0 || text != c.want || e != c.e {
			t.Errorf("case %d: %v, %q, %d", i, acts, text, e)
		}
	}
}

// P22.1: what is good, and what is not.
func TestVerify(t *testing.T) {
	d := of(two()...)
	now := after(t, d, want(orch.Release))
	ledger, _ := files.Get(all(now), tree.Ledger)
	h, _ := tree.Hash([]api.File{{Path: "a/go.mod", Data: "module ex/a\n"}}, "a")
	for i, c := range []struct {
		d    api.Disk
		want api.Errno
	}{
		{empty(8), api.OK}, {d, api.OK}, {now, api.OK}, {with(now, "a/x=new"), api.OK}, {with(now, ".intents="), api.OK},
		{of(".intent="), api.ErrStage}, {staged(now, nil), api.ErrStage}, {with(d, ".intent=no ops"), api.ErrStage}, {with(d, "ledger.txt=x", ".intent="), api.ErrLine}, {with(d, "a/go.mod="), api.ErrNone}, {with(d, "a/go.mod=module ex/b"), api.ErrTwice},
		{with(now, "ledger.txt="+ledger+"ex/a v0.1.1 "+h+"\n"), api.ErrVer}, {with(now, "ledger.txt="+ledger+"ex/a v0.1.1 "+h+"\n", ".intent="), api.ErrStage}, {with(now, "ledger.txt="+ledger+"ex/a v0.1.1 "+h+"\n", "b/x=new"), api.OK},
	} {
		want := "good\n"
		if c.want != api.OK {
			want = ""
		}
		acts, text, e := orch.Do(c.d, orch.Cmd{Kind: orch.Verify, Ops: ops("-x"), Wants: []bump.Want{{}}})
		if len(acts) != 0 || text != want || e != c.want {
			t.Errorf("case %d: %v, %q, %d, want %d", i, acts, text, e, c.want)
		}
	}
}

// P22.2: the files but the intent, and whether there is one.
func TestSeen(t *testing.T) {
	d := of(two()...)
	for i, c := range []struct {
		d        api.Disk
		isStaged bool
	}{
		{empty(8), false}, {d, false}, {staged(d, ops("x=1")), true}, {with(d, ".intent=no ops"), true}, {of(".intent="), true}, {with(d, ".intents=", "a/.intent=", ".intent/x="), false}, {with(staged(d, nil), "-.intent"), false}, {with(d, "a/go.mod=", "ledger.txt=x"), false},
	} {
		if got, e := orch.Seen(c.d); !files.Same(got, stage.Seen(all(c.d))) || e != api.OK {
			t.Errorf("case %d: %v, %d", i, got, e)
		}
		if got := orch.Staged(c.d); got != c.isStaged {
			t.Errorf("case %d: %v", i, got)
		}
	}
	if got, e := orch.Seen(staged(of("x=1", "b=2"), ops("x=2"))); !slices.Equal(got, []api.File{{Path: "b", Data: "2"}, {Path: "x", Data: "1"}}) || e != api.OK {
		t.Errorf("%v, %d", got, e)
	}
	for i, w := range wrongDisks() {
		if got, e := orch.Seen(w.d); len(got) != 0 || e != w.want {
			t.Errorf("disk %d: %v, %d", i, got, e)
		}
		if orch.Staged(w.d) {
			t.Errorf("disk %d", i)
		}
	}
}

// machine is one that has files alone: what comes of them by a command, what it tells, and its error.
func machine(l []api.File, c orch.Cmd) ([]api.File, string, api.Errno) {
	_, isStaged := files.Get(l, tree.Intent)
	done := func(ops []api.Op, text string, e api.Errno) ([]api.File, string, api.Errno) {
		if e != api.OK {
			return l, "", e
		}
		then, e := files.Apply(l, ops)
		return then, text, e
	}
	switch c.Kind {
	case orch.Edit:
		return done(c.Ops, "", stage.Allowed(l, c.Ops))
	case orch.Plan, orch.Release:
		if isStaged {
			return l, "", api.ErrStage
		}
		p, e := plan.Make(l, c.Wants)
		if c.Kind == orch.Plan {
			return done(nil, plan.Text(p), e)
		}
		return done(p.Ops, plan.Text(p), e)
	case orch.Resume:
		ops, e := stage.Finish(l)
		return done(ops, "", e)
	case orch.Rollback:
		ops, e := stage.Undo(l)
		return done(ops, "", e)
	case orch.Status:
		text, e := audit.Text(stage.Seen(l))
		if isStaged {
			text = "staged\n" + text
		}
		return done(nil, text, e)
	case orch.Verify:
		return done(nil, "good\n", audit.Good(l))
	}
	return l, "", api.ErrArg
}

// made is a command that mostly may be done.
func made(r *rand.Rand) orch.Cmd {
	c := orch.Cmd{Kind: r.Intn(8)}
	if r.Intn(3) == 0 {
		c.Kind = orch.Edit
	}
	mod := strconv.Itoa(r.Intn(4))
	switch r.Intn(4) {
	case 0:
		c.Ops = ops(mod + "/x=" + strings.Repeat("x", r.Intn(60)))
	case 1:
		// Mostly nobody depends on himself: who is required has a higher number.
		at := r.Intn(4)
		c.Ops = ops(strconv.Itoa(at) + "/go.mod=module m" + strconv.Itoa(at) + "\nrequire m" + strconv.Itoa(at+min(r.Intn(9), 2)) + " v0.1.0\n")
	case 2:
		c.Ops = ops(mod + "/go.mod=module m" + mod + "\n")
	default:
		c.Ops = ops("-"+mod+"/x", "y=")
	}
	if r.Intn(4) == 0 {
		c.Wants = []bump.Want{{Path: "m" + mod, Level: 1 + r.Intn(3)}}
	}
	return c
}

// P22.1, P22.3: made-up commands, on a disk that has room: each does and tells what a machine does that has files alone.
func TestMade(t *testing.T) {
	r := rand.New(rand.NewSource(1))
	releases := 0
	for range 150 {
		d, l := empty(api.MaxSectors), []api.File(nil)
		for range 25 {
			// A crash behind what is begun: it is staged.
			if p, e := plan.Make(l, nil); e == api.OK && len(p.Ops) > 0 && r.Intn(4) == 0 && !orch.Staged(d) {
				d = staged(d, p.Ops)
				l = all(d)
			}
			c := made(r)
			want, tells, we := machine(l, c)
			acts, text, e := orch.Do(d, c)
			if text != tells || e != we || e != api.OK && len(acts) != 0 {
				t.Fatalf("%v, %v: %q, %d, want %q, %d", l, c, text, e, tells, we)
			}
			then := ran(d, acts)
			if got := all(then); !files.Same(got, want) {
				t.Fatalf("%v, %v: %v, want %v", l, c, got, want)
			}
			if len(acts) > 0 && (c.Kind == orch.Plan || c.Kind == orch.Status || c.Kind == orch.Verify) {
				t.Fatalf("%v: %v", c, acts)
			}
			if c.Kind == orch.Release && len(acts) > 0 {
				releases++
				cutOff(t, d, c, acts)
			}
			d, l = then, want
		}
	}
	if releases < 50 {
		t.Errorf("%d alone", releases)
	}
}

// cutOff holds a release that crashes anywhere against P22.3 and P6: a plan told it, what is staged ends by a resume or a rollback, and one right behind it does nothing.
func cutOff(t *testing.T, d api.Disk, c orch.Cmd, acts []api.Act) {
	t.Helper()
	_, told, e := orch.Do(d, c)
	if _, shown, f := orch.Do(d, orch.Cmd{Kind: orch.Plan, Wants: c.Wants}); shown != told || e != api.OK || f != api.OK {
		t.Fatalf("%q, %d is not %q, %d", shown, f, told, e)
	}
	done := ran(d, acts)
	if again, text, e := orch.Do(done, orch.Cmd{Kind: orch.Release}); !isNothing(again, text, e, api.OK) {
		t.Fatalf("%v, %q, %d", again, text, e)
	}
	begun := false
	for n := range len(acts) + 1 {
		part, _ := disk.Run(d, acts, n)
		for _, keep := range [][]bool{nil, {false, true}, {true, false, true, false, true}, slices.Repeat([]bool{true}, n)} {
			lost, _ := disk.Crash(part, keep)
			if orch.Staged(lost) {
				begun = true
				if !files.Same(all(after(t, lost, orch.Cmd{Kind: orch.Resume})), all(done)) || !files.Same(all(after(t, lost, orch.Cmd{Kind: orch.Rollback})), all(d)) {
					t.Fatalf("%d of %v", n, acts)
				}
			} else if got := all(lost); !files.Same(got, all(d)) && !files.Same(got, all(done)) || n == len(acts) && !files.Same(got, all(done)) {
				t.Fatalf("%d of %v: %v", n, acts, got)
			}
		}
	}
	if !begun {
		t.Fatalf("never staged: %v", acts)
	}
}

// words is what the chapter's words say of a release: the acts of both, or the first error.
func words(d api.Disk, c orch.Cmd) ([]api.Act, string, api.Errno) {
	p, e := plan.Make(all(d), c.Wants)
	if e != api.OK || len(p.Items) == 0 {
		return nil, "", e
	}
	ops, e := stage.Begin(all(d), p.Ops)
	if e != api.OK {
		return nil, "", e
	}
	first, e := vault.Commit(d, ops)
	if e != api.OK {
		return nil, "", e
	}
	then := ran(d, first)
	if ops, e = stage.Finish(all(then)); e != api.OK {
		return nil, "", e
	}
	second, e := vault.Commit(then, ops)
	if e != api.OK {
		return nil, "", e
	}
	return append(first, second...), plan.Text(p), api.OK
}

// P22.1: made-up releases, on disks that have little room.
func TestMadeSmall(t *testing.T) {
	r := rand.New(rand.NewSource(2))
	told := map[api.Errno]int{}
	for range 300 {
		d := empty(8 + r.Intn(60))
		for range 20 {
			c := made(r)
			if c.Kind == orch.Release {
				want, tells, we := words(d, c)
				acts, text, e := orch.Do(d, c)
				if !slices.Equal(acts, want) || text != tells || e != we {
					t.Fatalf("%v, %v: %v, %q, %d, want %v, %q, %d", all(d), c, acts, text, e, want, tells, we)
				}
				told[e]++
			}
			if acts, _, e := orch.Do(d, c); e == api.OK {
				d = ran(d, acts)
			} else if len(acts) != 0 {
				t.Fatalf("%v: %v", c, acts)
			}
		}
	}
	if told[api.OK] < 50 || told[api.ErrFull] < 20 || told[api.ErrNone] < 20 {
		t.Errorf("%v", told)
	}
}

// R5, R6: what is told is memory of its own, what is handed in stays, and it is the same again.
func TestOwnMemory(t *testing.T) {
	d := of(two()...)
	in := staged(d, ops("x=1"))
	d.Sectors = slices.Grow(d.Sectors, 9)
	was, inWas := clone(d), clone(in)
	c := orch.Cmd{Kind: orch.Edit, Ops: slices.Grow(ops("x=1", "-README"), 9), Wants: slices.Grow([]bump.Want{{Path: "ex/b", Level: 2}}, 9)}
	for range 2 {
		seen, _ := orch.Seen(in)
		if !files.Same(seen, all(d)) {
			t.Fatalf("%v", seen)
		}
		clear(seen)
		for _, kind := range kinds() {
			c.Kind = kind
			for _, d := range []api.Disk{d, in} {
				acts, text, e := orch.Do(d, c)
				kept, _, _ := orch.Do(d, c)
				copied := slices.Clone(kept)
				clear(acts)
				again, same, f := orch.Do(d, c)
				if !slices.Equal(again, copied) || !slices.Equal(kept, copied) || text != same || e != f {
					t.Fatalf("%v: %v, %q, %d", c, again, same, f)
				}
			}
		}
		if !disk.Same(d, was) || !disk.Same(in, inWas) || !slices.Equal(c.Ops, ops("x=1", "-README")) || c.Ops[:3][2] != (api.Op{}) || !slices.Equal(c.Wants, []bump.Want{{Path: "ex/b", Level: 2}}) || c.Wants[:2][1] != (bump.Want{}) {
			t.Fatalf("%v, %v", d, c)
		}
	}
}

func clone(d api.Disk) api.Disk {
	return api.Disk{Sectors: slices.Clone(d.Sectors), Cache: slices.Clone(d.Cache)}
}
