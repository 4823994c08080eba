package crash_test

import (
	"math"
	"math/rand"
	"slices"
	"strconv"
	"strings"
	"testing"

	"armada/api"
	"armada/audit"
	"armada/bump"
	"armada/crash"
	"armada/disk"
	"armada/files"
	"armada/orch"
	"armada/plan"
	"armada/rec"
	"armada/stage"
	"armada/tree"
	"armada/vault"
)

// ops are ops, each a path, an `=` and its bytes; or a `-`, and the path of what is gone.
func ops(texts ...string) []api.Op {
	var l []api.Op
	for _, s := range texts {
		path, data, has := strings.Cut(s, "=")
		if has {
			l = append(l, api.Op{Path: path, Data: data})
		} else {
			l = append(l, api.Op{Gone: true, Path: strings.TrimPrefix(s, "-")})
		}
	}
	return l
}

// edit is an event that does these ops.
func edit(texts ...string) crash.Event {
	return crash.Event{Cmd: orch.Cmd{Kind: orch.Edit, Ops: ops(texts...)}}
}

// do is an event of a kind of commands, with wants, each a path, an `@` and a level.
func do(kind int, texts ...string) crash.Event {
	e := crash.Event{Cmd: orch.Cmd{Kind: kind}}
	for _, s := range texts {
		path, level, _ := strings.Cut(s, "@")
		n, _ := strconv.Atoi(level)
		e.Cmd.Wants = append(e.Cmd.Wants, bump.Want{Path: path, Level: n})
	}
	return e
}

// cut is e with a crash, that keeps by signs: `1` of a write that is kept.
func cut(e crash.Event, done int, signs string) crash.Event {
	e.Crash, e.Done = true, done
	for _, c := range signs {
		e.Keep = append(e.Keep, c == '1')
	}
	return e
}

// half is what comes of d by the first n of acts and a crash: a model of its own, without package disk.
func half(d api.Disk, acts []api.Act, n int, keep []bool) api.Disk {
	sectors, cache := slices.Clone(d.Sectors), slices.Clone(d.Cache)
	for i, a := range acts {
		switch {
		case i >= n:
		case a.Flush:
			for _, w := range cache {
				sectors[w.At] = w.Data
			}
			cache = nil
		default:
			cache = append(cache, api.Write{At: a.At, Data: a.Data + strings.Repeat("\x00", api.Sector-len(a.Data))})
		}
	}
	for i, w := range cache {
		if i < len(keep) && keep[i] {
			sectors[w.At] = w.Data
		}
	}
	return api.Disk{Sectors: sectors}
}

// empty is a disk of n sectors, without files.
func empty(n int) api.Disk {
	d, e := crash.Make(n)
	if e != api.OK {
		panic("no disk of " + strconv.Itoa(n) + " sectors")
	}
	return d
}

// with is d, of which the files are changed, whatever commands may do: one commit an op.
func with(d api.Disk, texts ...string) api.Disk {
	for _, op := range ops(texts...) {
		acts, e := vault.Commit(d, []api.Op{op})
		if e != api.OK {
			panic(op.Path + " is not done: " + strconv.Itoa(int(e)))
		}
		d = half(d, acts, len(acts), nil)
	}
	return d
}

// of is a disk of the most sectors, with these files.
func of(texts ...string) api.Disk { return with(empty(api.MaxSectors), texts...) }

// two are files of two modules, of which ex/b requires ex/a.
func two() []string {
	return []string{"a/go.mod=module ex/a\n", "b/go.mod=module ex/b\nrequire ex/a v0.0.1\n", "README=none of theirs\n"}
}

// staged is d, on which these ops are staged.
func staged(d api.Disk, l []api.Op) api.Disk {
	s, e := files.Encode(l)
	if e != api.OK {
		panic("no bytes of ops: " + strconv.Itoa(int(e)))
	}
	return with(d, tree.Intent+"="+s)
}

// all is the files of d, the intent among them.
func all(d api.Disk) []api.File {
	v, e := vault.Mount(d)
	if e != api.OK {
		panic("no files on a disk: " + strconv.Itoa(int(e)))
	}
	return v.Files
}

// seen is the files of d, without what is staged.
func seen(t *testing.T, d api.Disk) []api.File {
	t.Helper()
	l, e := orch.Seen(d)
	if e != api.OK {
		t.Fatalf("no files are seen: %d", e)
	}
	return l
}

// P23.1: a disk of so many sectors, with which a vault's acts are done.
func TestMake(t *testing.T) {
	for n := 8; n <= api.MaxSectors; n++ {
		blank, _ := disk.New(n)
		acts, _ := vault.Format(n)
		d, e := crash.Make(n)
		if want := half(blank, acts, len(acts), nil); !disk.Same(d, want) || len(d.Sectors) != n || e != api.OK {
			t.Fatalf("%d: %v, %d", n, d, e)
		}
		v, e := vault.Mount(d)
		if v.Half != 0 || v.Gen != 1 || v.Many != 0 || len(v.Files) != 0 || e != api.OK {
			t.Fatalf("%d: %v, %d", n, v, e)
		}
	}
}

// wrongSizes are those of which there is no vault.
func wrongSizes() []int {
	return []int{7, 1, 0, -1, -8, math.MinInt, 513, 1 << 20, 1 << 32, 1<<32 + 64, math.MaxInt}
}

// P23.1: the error of a vault.
func TestMakeErrors(t *testing.T) {
	for _, n := range wrongSizes() {
		_, want := vault.Format(n)
		if d, e := crash.Make(n); d.Sectors != nil || d.Cache != nil || e != want || e != api.ErrArg {
			t.Errorf("%d: %v, %d", n, d, e)
		}
	}
}

// disks are disks on which commands do all kinds of things; the last one was written to, and not flushed.
func disks() []api.Disk {
	d := of(two()...)
	behind, _ := crash.Step(d, do(orch.Release))
	dirty := api.Disk{Sectors: d.Sectors, Cache: []api.Write{{At: 200, Data: d.Sectors[200]}, {At: 400, Data: strings.Repeat("x", api.Sector)}, {At: 401, Data: strings.Repeat("y", api.Sector)}}}
	return []api.Disk{empty(8), empty(64), d, with(empty(40), two()...), with(behind, "a/x=new"), staged(d, ops("a/x=new", "-README")), of(".intent=no ops"), of("a/go.mod=modul"), dirty}
}

// events are commands of all kinds, and some that there are not.
func events() []crash.Event {
	return []crash.Event{edit(), edit("x=1"), edit("-README", "x=1", "y="+strings.Repeat("y", 300)), edit("-none"), edit("/="), edit("ledger.txt="), do(orch.Plan), do(orch.Plan, "ex/b@2"), do(orch.Release), do(orch.Release, "ex/b@3", "ex/a@1"), do(orch.Release, "ex/a@0"), do(orch.Resume), do(orch.Rollback), do(orch.Status), do(orch.Verify), do(-1), do(7), do(math.MaxInt)}
}

// P23.2: all acts, and the command's text; or its error alone, and the disk as it was.
func TestStep(t *testing.T) {
	done, failed := 0, 0
	for i, d := range disks() {
		for j, e := range events() {
			e.Done, e.Keep = 1, []bool{true}
			acts, text, err := orch.Do(d, e.Cmd)
			got, r := crash.Step(d, e)
			if err != api.OK {
				failed++
				if !disk.Same(got, d) || r != (crash.Result{Err: err}) {
					t.Errorf("disk %d, event %d: %v, want %d", i, j, r, err)
				}
				continue
			}
			done++
			want, _ := disk.Run(d, acts, len(acts))
			if !disk.Same(got, want) || r != (crash.Result{Text: text, Acts: len(acts)}) {
				t.Errorf("disk %d, event %d: %v, want %q and %d acts", i, j, r, text, len(acts))
			}
		}
	}
	if done < 40 || failed < 40 {
		t.Errorf("%d and %d alone", done, failed)
	}
}

// P23.2: what is told of some events, and what stands on the disk behind them.
func TestStepTold(t *testing.T) {
	d := of(two()...)
	text := plan.Text(planned(t, d))
	for i, c := range []struct {
		d    api.Disk
		e    crash.Event
		want crash.Result
		file string
	}{
		{empty(8), edit("x=1"), crash.Result{Acts: 4}, "1"}, {d, edit("x=" + strings.Repeat("1", 40)), crash.Result{Acts: 5}, strings.Repeat("1", 40)}, {d, do(orch.Status), crash.Result{Text: "ex/a - changed\nex/b - changed\n"}, ""}, {d, do(orch.Verify), crash.Result{Text: "good\n"}, ""}, {d, do(orch.Plan), crash.Result{Text: text}, ""},
		{staged(d, ops("x=2")), do(orch.Resume), crash.Result{Acts: 4}, "2"}, {staged(d, ops("x=2")), do(orch.Rollback), crash.Result{Acts: 4}, ""}, {d, do(orch.Rollback), crash.Result{Err: api.ErrNone}, ""}, {d, edit("x=1", "-y"), crash.Result{Err: api.ErrNone}, ""}, {staged(d, nil), edit("x=1"), crash.Result{Err: api.ErrStage}, ""}, {empty(8), edit("x=" + strings.Repeat("1", 100)), crash.Result{Err: api.ErrFull}, ""},
	} {
		got, r := crash.Step(c.d, c.e)
		if data, _ := files.Get(all(got), "x"); r != c.want || data != c.file {
			t.Errorf("case %d: %v, %q", i, r, data)
		}
	}
	if got, r := crash.Step(d, do(orch.Release)); r.Text != text || r.Err != api.OK || r.Acts < 8 || len(all(got)) != 4 {
		t.Errorf("%v, %v", r, all(got))
	}
}

// planned is what a release of the files of d does.
func planned(t *testing.T, d api.Disk) plan.Plan {
	t.Helper()
	p, e := plan.Make(all(d), nil)
	if e != api.OK || len(p.Items) == 0 {
		t.Fatalf("%v, %d", p, e)
	}
	return p
}

// P23.2: with a crash, so many acts as it says are done, of what is not flushed what it keeps; all acts are told, and no text.
func TestStepCrash(t *testing.T) {
	for i, d := range disks() {
		for j, e := range events() {
			acts, _, err := orch.Do(d, e.Cmd)
			for _, done := range []int{math.MinInt, -1, 0, 1, 2, 3, 4, 5, 6, 7, len(acts) - 1, len(acts), len(acts) + 1, math.MaxInt} {
				for _, signs := range []string{"", "0", "1", "01", "10", "0101", "11111111111111111111", "0000000000000000000001"} {
					e := cut(e, done, signs)
					got, r := crash.Step(d, e)
					want, told := half(d, acts, done, e.Keep), crash.Result{Acts: len(acts)}
					if err != api.OK {
						want, told = d, crash.Result{Err: err}
					}
					if !disk.Same(got, want) || r != told {
						t.Fatalf("disk %d, event %d, %d done, %q is kept: %v, want %v", i, j, done, signs, r, told)
					}
				}
			}
		}
	}
}

// P23.2: a disk that is none stays so, crash or not.
func TestStepWrongDisk(t *testing.T) {
	blank, _ := disk.New(64)
	short, _ := disk.New(7)
	beyond := empty(64)
	beyond.Cache = []api.Write{{At: 64, Data: strings.Repeat("\x00", api.Sector)}}
	for i, c := range []struct {
		d    api.Disk
		want api.Errno
	}{
		{api.Disk{}, api.ErrArg}, {short, api.ErrArg}, {api.Disk{Sectors: []string{"short"}, Cache: []api.Write{{At: -1, Data: "x"}}}, api.ErrArg}, {beyond, api.ErrArg}, {blank, api.ErrNone},
	} {
		for _, e := range append(events(), cut(do(orch.Release), 3, "01"), cut(do(9), 3, "01")) {
			if got, r := crash.Step(c.d, e); !disk.Same(got, c.d) || r != (crash.Result{Err: c.want}) {
				t.Errorf("disk %d: %v: %v", i, e, r)
			}
		}
	}
}

// P23.2: the first one of the chapter's examples: behind its first flush nothing is staged, behind its second one it is.
func TestExample(t *testing.T) {
	d := of(two()...)
	acts, _, _ := orch.Do(d, do(orch.Release).Cmd)
	for flushes, want := range []api.Errno{api.ErrNone, api.ErrNone, api.OK, api.OK, api.ErrNone} {
		done, left := 0, flushes
		for ; left > 0; done++ {
			if acts[done].Flush {
				left--
			}
		}
		lost, r := crash.Step(d, cut(do(orch.Release), done, ""))
		if r != (crash.Result{Acts: len(acts)}) || orch.Staged(lost) != (want == api.OK) {
			t.Errorf("%d flushes: %v", flushes, r)
		}
		back, r := crash.Step(lost, do(orch.Rollback))
		if r.Err != want || r.Text != "" || (r.Acts == 0) == (want == api.OK) {
			t.Errorf("%d flushes: %v", flushes, r)
		}
		if flushes < 4 && !files.Same(all(back), all(d)) {
			t.Errorf("%d flushes: %v", flushes, all(back))
		}
	}
}

// P23.3: events one behind the other, each on what the one ahead of it left.
func TestPlay(t *testing.T) {
	l := []crash.Event{edit("a/go.mod=module ex/a\n"), edit("x=1", "-y"), do(orch.Release, "ex/a@9"), cut(do(orch.Release), 4, "1"), do(orch.Rollback), cut(do(orch.Release), 10, ""), do(orch.Status), edit("x=1"), cut(do(orch.Resume), 1, ""), do(orch.Resume), do(orch.Release), do(orch.Verify), do(9)}
	for n := range l {
		for _, size := range []int{48, 64, 511, api.MaxSectors} {
			d := empty(size)
			var want []crash.Result
			for _, e := range l[:n+1] {
				var r crash.Result
				d, r = crash.Step(d, e)
				want = append(want, r)
			}
			got, results, e := crash.Play(size, l[:n+1])
			if !disk.Same(got, d) || !slices.Equal(results, want) || e != api.OK {
				t.Fatalf("%d events, %d sectors: %v, %d, want %v", n+1, size, results, e, want)
			}
		}
	}
	_, results, _ := crash.Play(64, l)
	var told []string
	for _, r := range results {
		told = append(told, strconv.Itoa(int(r.Err))+" "+r.Text)
	}
	text := strings.Join(told, "|")
	if want := "0 |5 |1 |0 |5 |0 |0 staged\nex/a - changed\n|14 |0 |0 |0 |0 good\n|1 "; text != want {
		t.Errorf("%q, want %q", text, want)
	}
	for _, size := range []int{8, 9, 100} {
		if got, results, e := crash.Play(size, nil); !disk.Same(got, empty(size)) || len(results) != 0 || e != api.OK {
			t.Errorf("%d sectors: %v, %d", size, results, e)
		}
	}
}

// P23.3: the disk's error, and nothing else.
func TestPlayErrors(t *testing.T) {
	for _, n := range wrongSizes() {
		for _, l := range [][]crash.Event{nil, {}, events(), {do(9)}} {
			if d, results, e := crash.Play(n, l); d.Sectors != nil || d.Cache != nil || len(results) != 0 || e != api.ErrArg {
				t.Errorf("%d: %v, %v, %d", n, d, results, e)
			}
		}
	}
}

// machine is one that has files alone: what comes of them by a command, what it tells, and its error.
func machine(l []api.File, c orch.Cmd) ([]api.File, string, api.Errno) {
	_, isStaged := files.Get(l, tree.Intent)
	done := func(ops []api.Op, text string, e api.Errno) ([]api.File, string, api.Errno) {
		if e != api.OK {
			return l, "", e
		}
		then, e := files.Apply(l, ops)
		return then, text, e
	}
	switch c.Kind {
	case orch.Edit:
		return done(c.Ops, "", stage.Allowed(l, c.Ops))
	case orch.Plan, orch.Release:
		if isStaged {
			return l, "", api.ErrStage
		}
		p, e := plan.Make(l, c.Wants)
		if c.Kind == orch.Plan {
			return done(nil, plan.Text(p), e)
		}
		return done(p.Ops, plan.Text(p), e)
	case orch.Resume:
		ops, e := stage.Finish(l)
		return done(ops, "", e)
	case orch.Rollback:
		ops, e := stage.Undo(l)
		return done(ops, "", e)
	case orch.Status:
		text, e := audit.Text(stage.Seen(l))
		if isStaged {
			text = "staged\n" + text
		}
		return done(nil, text, e)
	case orch.Verify:
		return done(nil, "good\n", audit.Good(l))
	}
	return l, "", api.ErrArg
}

// made is a made-up event, that mostly may be done; a third of all crash.
func made(r *rand.Rand) crash.Event {
	mod := strconv.Itoa(r.Intn(4))
	e := do([]int{orch.Edit, orch.Edit, orch.Edit, orch.Release, orch.Release, orch.Resume, orch.Rollback, r.Intn(8)}[r.Intn(8)])
	switch r.Intn(5) {
	case 0:
		e.Cmd.Ops = ops(mod+"/x="+strings.Repeat("x", r.Intn(60)), "y="+strings.Repeat("y", r.Intn(200)))
	case 1:
		at := r.Intn(4)
		e.Cmd.Ops = ops(strconv.Itoa(at) + "/go.mod=module m" + strconv.Itoa(at) + "\nrequire m" + strconv.Itoa(at+min(r.Intn(9), 2)) + " v0.1.0\n")
	case 2:
		e.Cmd.Ops = ops(mod + "/go.mod=module m" + mod + "\n")
	case 3:
		e.Cmd.Ops = ops("-"+mod+"/x", "y=")
	default:
		e.Cmd.Ops = ops(mod + "/x=" + strconv.Itoa(r.Intn(1000)))
	}
	if r.Intn(4) == 0 {
		e.Cmd.Wants = []bump.Want{{Path: "m" + mod, Level: 1 + r.Intn(3)}}
	}
	if r.Intn(3) == 0 {
		e = cut(e, r.Intn(40), "")
		for range r.Intn(16) {
			e.Keep = append(e.Keep, r.Intn(2) == 0)
		}
	}
	return e
}

// fits tells whether a command's files fit into half a disk of n sectors: those behind it, and, of a release, those with what it stages.
func fits(n int, l []api.File, c orch.Cmd) bool {
	then, _, _ := machine(l, c)
	begun := l
	if p, e := plan.Make(l, c.Wants); c.Kind == orch.Release && e == api.OK {
		ops, _ := stage.Begin(l, p.Ops)
		begun, _ = files.Apply(l, ops)
	}
	for _, l := range [][]api.File{then, begun} {
		s, e := files.Encode(files.Diff(nil, l))
		if e != api.OK || 2+rec.Count(len(s)) > n/2 {
			return false
		}
	}
	return true
}

// P23.4, P1, P3: made-up events: files are those ahead of an event, or those behind it; and what is told is what a machine tells that has files alone.
func TestMade(t *testing.T) {
	r := rand.New(rand.NewSource(1))
	var crashes, changes, room int
	for range 60 {
		n := []int{api.MaxSectors, api.MaxSectors, 300, 100, 40 + r.Intn(60)}[r.Intn(5)]
		d := empty(n)
		for range 40 {
			e := made(r)
			l := all(d)
			then, text, err := machine(l, e.Cmd)
			whole, told := crash.Step(d, crash.Event{Cmd: e.Cmd})
			after, cutTold := crash.Step(d, e)
			switch {
			case told.Err == api.ErrFull && err == api.OK && !fits(n, l, e.Cmd):
				room++
				then, text, err = l, "", api.ErrFull
			case told.Err == api.OK && !files.Same(all(whole), then):
				t.Fatalf("%v, %v: %v, want %v", l, e, all(whole), then)
			}
			if told.Text != text || told.Err != err || e.Crash && cutTold != (crash.Result{Err: err, Acts: told.Acts}) {
				t.Fatalf("%v, %v: %v, %v, want %q, %d", l, e, told, cutTold, text, err)
			}
			got, ahead, behind := seen(t, after), seen(t, d), seen(t, whole)
			if !files.Same(got, ahead) && !files.Same(got, behind) || (!e.Crash || e.Done >= told.Acts) && !files.Same(all(after), all(whole)) {
				t.Fatalf("%v, %v: %v", l, e, got)
			}
			if e.Crash && told.Acts > 0 {
				crashes++
			}
			if !files.Same(got, ahead) {
				changes++
			}
			d = after
		}
	}
	if crashes < 300 || changes < 300 || room < 5 {
		t.Errorf("%d, %d and %d alone", crashes, changes, room)
	}
}

// P23.4, P6, P2: a release that crashes anywhere, and whose end crashes over and over, ends: as it was, or as it is released; and what crashed is read as it is.
func TestEnds(t *testing.T) {
	r := rand.New(rand.NewSource(2))
	ends := 0
	for range 300 {
		d := with(empty(60+r.Intn(200)), two()...)
		if r.Intn(2) == 0 {
			d, _ = crash.Step(d, do(orch.Release))
			d = with(d, "a/x=new")
		}
		released, told := crash.Step(d, do(orch.Release))
		if told.Err != api.OK || told.Acts == 0 {
			t.Fatalf("%v", told)
		}
		keep := strings.Repeat([]string{"", "0", "1", "01", "011"}[r.Intn(5)], 10)
		now, _ := crash.Step(d, cut(do(orch.Release), r.Intn(told.Acts+1), keep))
		if !orch.Staged(now) {
			continue
		}
		ends++
		kind := []int{orch.Resume, orch.Rollback}[r.Intn(2)]
		for range r.Intn(20) {
			e := cut(do(kind), r.Intn(8), keep)
			next, told := crash.Step(now, e)
			if again, _ := disk.Crash(next, nil); !disk.Same(again, next) {
				t.Fatalf("%v: %v", e, next)
			}
			if told.Err != api.OK {
				t.Fatalf("%v: %v", e, told)
			}
			if now = next; !orch.Staged(now) {
				break
			}
			if !files.Same(seen(t, now), seen(t, d)) {
				t.Fatalf("%v: %v", e, seen(t, now))
			}
		}
		if orch.Staged(now) {
			if now, told = crash.Step(now, do(kind)); told.Err != api.OK {
				t.Fatalf("%v", told)
			}
		}
		want := all(released)
		if kind == orch.Rollback {
			want = all(d)
		}
		if got := all(now); !files.Same(got, want) || orch.Staged(now) {
			t.Fatalf("%d: %v, want %v", kind, got, want)
		}
	}
	if ends < 50 {
		t.Errorf("%d alone", ends)
	}
}

// P2, R1: whatever a disk has, an event ends: it tells what is wrong with the disk, and leaves it, or does what the command does.
func TestBrokenDisks(t *testing.T) {
	r := rand.New(rand.NewSource(3))
	wrong := map[api.Errno]int{}
	for range 500 {
		d := disks()[1+r.Intn(5)]
		for range 1 + r.Intn(3) {
			at := r.Intn(2) * r.Intn(min(len(d.Sectors), 24))
			sector := []byte(d.Sectors[at])
			switch r.Intn(3) {
			case 0:
				sector[r.Intn(len(sector))] ^= byte(1 << r.Intn(8))
			case 1:
				sector = []byte(d.Sectors[r.Intn(min(len(d.Sectors), 24))])
			default:
				r.Read(sector[:1+r.Intn(api.Sector)])
			}
			d.Sectors[at] = string(sector)
		}
		_, want := vault.Mount(d)
		wrong[want]++
		for _, e := range events() {
			e := cut(e, r.Intn(12), "0110")
			got, told := crash.Step(d, e)
			if want != api.OK && (told != (crash.Result{Err: want}) || !disk.Same(got, d)) {
				t.Fatalf("%v: %v, want %d", e, told, want)
			}
			if told.Err == api.OK && !files.Same(seen(t, got), seen(t, d)) && told.Acts == 0 {
				t.Fatalf("%v: %v", e, told)
			}
		}
	}
	if wrong[api.OK] < 50 || wrong[api.ErrNone] < 50 {
		t.Errorf("%v", wrong)
	}
}

// P5, P4: a release right behind a release does nothing, and a plan is what a release does that comes next.
func TestReleases(t *testing.T) {
	release, shown := do(orch.Release), do(orch.Plan)
	_, results, e := crash.Play(api.MaxSectors, []crash.Event{edit(two()...), shown, release, release, edit("a/x=new"), shown, release, shown, do(orch.Verify)})
	if e != api.OK || results[1].Text == "" || results[2].Text != results[1].Text || results[3] != (crash.Result{}) || results[5].Text == "" || results[6].Text != results[5].Text || results[7] != (crash.Result{}) || results[8].Text != "good\n" {
		t.Errorf("%v, %d", results, e)
	}
}

// R5, R6: what is told is memory of its own, what is handed in stays, and it is the same again.
func TestOwnMemory(t *testing.T) {
	for i, d := range disks() {
		d.Sectors, d.Cache = slices.Grow(d.Sectors, 9), slices.Grow(d.Cache, 9)
		was := api.Disk{Sectors: slices.Clone(d.Sectors), Cache: slices.Clone(d.Cache)}
		for j, e := range events() {
			for _, e := range []crash.Event{e, cut(e, 3, "01")} {
				e.Cmd.Ops, e.Cmd.Wants, e.Keep = slices.Grow(e.Cmd.Ops, 3), slices.Grow(e.Cmd.Wants, 3), slices.Grow(e.Keep, 3)
				opsWas, wantsWas, keepWas := slices.Clone(e.Cmd.Ops), slices.Clone(e.Cmd.Wants), slices.Clone(e.Keep)
				first, told := crash.Step(d, e)
				copied := api.Disk{Sectors: slices.Clone(first.Sectors), Cache: slices.Clone(first.Cache)}
				clear(first.Sectors)
				clear(first.Cache)
				again, same := crash.Step(d, e)
				if !disk.Same(again, copied) || same != told || !disk.Same(d, was) {
					t.Fatalf("disk %d, event %d: %v, %v", i, j, told, same)
				}
				if !slices.Equal(e.Cmd.Ops, opsWas) || !slices.Equal(e.Cmd.Wants, wantsWas) || !slices.Equal(e.Keep, keepWas) {
					t.Fatalf("disk %d, event %d: %v", i, j, e)
				}
			}
		}
	}
	l := []crash.Event{edit("x=1"), do(9), do(orch.Status)}
	d, results, _ := crash.Play(64, l)
	clear(d.Sectors)
	clear(results)
	again, same, e := crash.Play(64, l)
	if !disk.Same(again, with(empty(64), "x=1")) || len(same) != 3 || same[0].Acts != 4 || same[1].Err != api.ErrArg || e != api.OK {
		t.Errorf("%v, %d", same, e)
	}
}
