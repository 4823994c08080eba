package script_test

import (
	"encoding/hex"
	"math"
	"math/rand"
	"regexp"
	"slices"
	"strconv"
	"strings"
	"testing"

	"armada/api"
	"armada/bump"
	"armada/crash"
	"armada/files"
	"armada/orch"
	"armada/script"
)

// put and drop are edits of one op.
func put(path, data string) crash.Event { return edit(api.Op{Path: path, Data: data}) }

func drop(path string) crash.Event { return edit(api.Op{Gone: true, Path: path}) }

func edit(l ...api.Op) crash.Event {
	return crash.Event{Cmd: orch.Cmd{Kind: orch.Edit, Ops: l}}
}

// do is an event of a kind of commands, with wants.
func do(kind int, wants ...bump.Want) crash.Event {
	return crash.Event{Cmd: orch.Cmd{Kind: kind, Wants: wants}}
}

// cut is e with a crash.
func cut(e crash.Event, done int, keep ...bool) crash.Event {
	e.Crash, e.Done, e.Keep = true, done, keep
	return e
}

// same tells whether a and b are the same event: a list that is empty may be nil.
func same(a, b crash.Event) bool {
	return a.Cmd.Kind == b.Cmd.Kind && slices.Equal(a.Cmd.Ops, b.Cmd.Ops) && slices.Equal(a.Cmd.Wants, b.Cmd.Wants) && a.Crash == b.Crash && a.Done == b.Done && slices.Equal(a.Keep, b.Keep)
}

// isZero tells whether e has nothing at all.
func isZero(e crash.Event) bool { return same(e, crash.Event{}) }

// pair is an event, and its line.
type pair struct {
	e    crash.Event
	line string
}

func pairs() []pair {
	long := strings.Repeat("x", api.MaxPath)
	huge := strings.Repeat("\xff", 9000)
	return []pair{
		{put("a/go.mod", "module ex/a\n"), "put a/go.mod 6d6f64756c652065782f610a"}, {put("x", ""), "put x -"}, {put("x", "-"), "put x 2d"}, {put("x", "\x00"), "put x 00"}, {put("x", "\x01\x9a\xbc\xdf"), "put x 019abcdf"}, {put(long, "1"), "put " + long + " 31"}, {put("x", huge), "put x " + strings.Repeat("ff", 9000)},
		{put("-", ""), "put - -"}, {put("put", " "), "put put 20"}, {put(".intent", ""), "put .intent -"}, {put("ledger.txt", "\n"), "put ledger.txt 0a"},
		{drop("x"), "drop x"}, {drop("a/b/c.go"), "drop a/b/c.go"}, {drop("-"), "drop -"}, {drop("drop"), "drop drop"}, {drop(long), "drop " + long},
		{do(orch.Plan), "plan"}, {do(orch.Release), "release"}, {do(orch.Resume), "resume"}, {do(orch.Rollback), "rollback"}, {do(orch.Status), "status"}, {do(orch.Verify), "verify"},
		{do(orch.Plan, bump.Want{Path: "ex/a", Level: 1}), "plan ex/a 1"}, {do(orch.Release, bump.Want{Path: "ex/a", Level: 3}, bump.Want{Path: "ex/b", Level: 2}), "release ex/a 3 ex/b 2"}, {do(orch.Plan, bump.Want{Path: "x", Level: 0}), "plan x 0"}, {do(orch.Plan, bump.Want{Path: "x", Level: 999999999}), "plan x 999999999"}, {do(orch.Release, bump.Want{Path: "x", Level: 10}, bump.Want{Path: "x", Level: 10}), "release x 10 x 10"},
		// A want's path is a word, whatever it has but blanks and line's ends.
		{do(orch.Plan, bump.Want{Path: "-", Level: 1}), "plan - 1"}, {do(orch.Plan, bump.Want{Path: "1", Level: 1}), "plan 1 1"}, {do(orch.Plan, bump.Want{Path: "\t\r\x00//..", Level: 1}), "plan \t\r\x00//.. 1"}, {do(orch.Release, bump.Want{Path: "\xff\xc3\xa9", Level: 1}), "release \xff\xc3\xa9 1"}, {do(orch.Release, bump.Want{Path: long + long, Level: 1}), "release " + long + long + " 1"},
		{cut(do(orch.Release), 3, false, true), "crash 3 01 release"}, {cut(do(orch.Release), 0), "crash 0 - release"}, {cut(do(orch.Status), 999999999, true), "crash 999999999 1 status"}, {cut(do(orch.Resume), 10, false), "crash 10 0 resume"}, {cut(put("x", ""), 1, true, true, false), "crash 1 110 put x -"}, {cut(drop("x"), 1), "crash 1 - drop x"}, {cut(do(orch.Plan, bump.Want{Path: "crash", Level: 7}), 2), "crash 2 - plan crash 7"}, {cut(do(orch.Rollback), 1, make([]bool, 9000)...), "crash 1 " + strings.Repeat("0", 9000) + " rollback"},
	}
}

// P24.1, P24.4: an event's line, and the event of it.
func TestLineParse(t *testing.T) {
	for _, p := range pairs() {
		if got := script.Line(p.e); got != p.line {
			t.Errorf("%v: %q, want %q", p.e, got, p.line)
		}
		if got, e := script.Parse(p.line); !same(got, p.e) || e != api.OK {
			t.Errorf("%q: %v, %d", p.line, got, e)
		}
	}
	for i := range 256 {
		data := string([]byte{byte(i)})
		line := "put x " + hex.EncodeToString([]byte(data))
		if got := script.Line(put("x", data)); got != line {
			t.Errorf("%q is not %q", got, line)
		}
		if got, e := script.Parse(line); !same(got, put("x", data)) || e != api.OK {
			t.Errorf("%q: %v, %d", line, got, e)
		}
	}
}

// P24.1: lists that have nothing may be nil or not.
func TestLineEmpty(t *testing.T) {
	for kind, want := range []string{"", "plan", "release", "resume", "rollback", "status", "verify"} {
		e := crash.Event{Cmd: orch.Cmd{Kind: kind, Ops: []api.Op{}, Wants: []bump.Want{}}, Keep: []bool{}}
		if got := script.Line(e); got != want {
			t.Errorf("%v: %q", e, got)
		}
		if e.Crash = true; want != "" {
			want = "crash 0 - " + want
		}
		if got := script.Line(e); got != want {
			t.Errorf("%v: %q", e, got)
		}
	}
}

// P24.1: events that have no line, of a crash or not.
func TestLineNone(t *testing.T) {
	var l []crash.Event
	for _, path := range []string{"", "/", "/a", "a/", "a//b", ".", "..", "a/..", "a b", " ", "a\n", "\n", "a\t", "a\x00", "\xff", "é", strings.Repeat("x", api.MaxPath+1)} {
		l = append(l, put(path, ""), put(path, "1"), drop(path))
	}
	for _, kind := range []int{orch.Plan, orch.Release} {
		for _, w := range []bump.Want{{Level: 1}, {Path: " ", Level: 1}, {Path: "a b", Level: 1}, {Path: "a ", Level: 1}, {Path: "\n", Level: 1}, {Path: "a\nb", Level: 1}, {Path: "a", Level: -1}, {Path: "a", Level: 1000000000}, {Path: "a", Level: math.MinInt}, {Path: "a", Level: math.MaxInt}, {Path: "a", Level: 1<<32 + 1}} {
			good := bump.Want{Path: "b", Level: 1}
			l = append(l, do(kind, w), do(kind, w, good), do(kind, good, w))
		}
	}
	op := api.Op{Path: "x", Data: "1"}
	l = append(l, edit(), edit(op, op), edit(api.Op{Gone: true, Path: "x", Data: "1"}), edit(api.Op{}), crash.Event{})
	for kind := range 7 {
		both := orch.Cmd{Kind: kind, Ops: []api.Op{op}, Wants: []bump.Want{{Path: "a", Level: 1}}}
		l = append(l, crash.Event{Cmd: both})
		if kind != orch.Edit {
			l = append(l, crash.Event{Cmd: orch.Cmd{Kind: kind, Ops: []api.Op{op}}})
		}
		if kind != orch.Plan && kind != orch.Release {
			l = append(l, do(kind, bump.Want{Path: "a", Level: 1}))
		}
	}
	for _, kind := range []int{-1, 7, 8, 256, 1 << 32, math.MinInt, math.MaxInt} {
		l = append(l, do(kind), crash.Event{Cmd: orch.Cmd{Kind: kind, Ops: []api.Op{op}}})
	}
	for _, e := range l {
		for _, e := range []crash.Event{e, cut(e, 1, true)} {
			if got := script.Line(e); got != "" {
				t.Errorf("%v: %q", e, got)
			}
		}
	}
	for _, p := range pairs() {
		if !p.e.Crash {
			for _, e := range []crash.Event{{Cmd: p.e.Cmd, Done: 1}, {Cmd: p.e.Cmd, Done: -1}, {Cmd: p.e.Cmd, Keep: []bool{false}}, cut(p.e, -1), cut(p.e, 1000000000), cut(p.e, math.MinInt), cut(p.e, math.MaxInt, true)} {
				if got := script.Line(e); got != "" {
					t.Errorf("%v: %q", e, got)
				}
			}
		}
	}
}

// wrongLines are no events' lines.
func wrongLines() []string {
	return []string{"", " ", "-", "x", "Plan", "plans", "plan\r", "edit x 31", "PUT x 31",
		"put", "put x", "put x -  ", "put x 3", "put x 313", "put x 3A", "put x 3g", "put x +1", "put x 0x31", "put x --", "put x - -", "put x 31 31", "put x -31", "put  31", "put /x 31", "put a//b -", "put a\n -", "put x 31\n", "put x 3_1", "put x\t31", "put x ", "put  x -",
		"drop", "drop ", "drop x ", "drop x -", "drop x y", "drop /", "drop  x", " drop x", "drop\tx",
		"plan ", " plan", "plan a", "plan a 1 ", "plan  a 1", "plan a  1", "plan a 01", "plan a 00", "plan a +1", "plan a -1", "plan a -0", "plan a 1000000000", "plan a 0000000001", "plan a 1_0", "plan a 0x1", "plan a 1.0", "plan a x", "plan a 1 b", "plan 1 a", "plan a\nb 1", "plan a 1\n", "plan \n 1", "plan a 18446744073709551617", "release a -", "release a 1 b 01", "release\n", "release a ٣",
		"resume ", "resume a 1", "resume -", "rollback a 1", "rollback x", "status -", "status a 1", "verify  ", "verify 1", "verify a 1", "verify\tx", "status\n", "status // x",
		"crash", "crash ", "crash 1", "crash 1 -", "crash 1 - ", "crash - 1 release", "crash 3 01", "crash 3 01 ", "crash 3 release", "crash 01 - release", "crash -1 - release", "crash +1 - release", "crash 1000000000 - release", "crash 1  release", "crash  - release", "crash 1 2 release", "crash 1 -1 release", "crash 1 1- release", "crash 1 -- release", "crash 1 0 1 release", "crash 1 O release", "crash 1 - x", "crash 1 - put x", "crash 1 - plan a", "crash 1 - crash 1 - release", "crash 1 - crash", " crash 1 - release", "crash 1\n - release", "crash 1 -\n release", "crash 1 0\xff release", "Crash 1 - release",
	}
}

// P24.1: texts that are no lines.
func TestParseNone(t *testing.T) {
	for _, s := range wrongLines() {
		if got, e := script.Parse(s); !isZero(got) || e != api.ErrLine {
			t.Errorf("%q: %v, %d", s, got, e)
		}
	}
	for _, p := range pairs() {
		for _, s := range []string{p.line + " ", " " + p.line, p.line + "\n", p.line + " x", p.line + "\r", "x " + p.line, p.line + " 1 1 1", p.line + "  1 1"} {
			if got, e := script.Parse(s); !isZero(got) || e != api.ErrLine {
				t.Errorf("%q: %v, %d", s, got, e)
			}
		}
	}
}

// grammar is the chapter's words, but for what a file's path is.
const grammar = `\A(crash (0|[1-9][0-9]{0,8}) (-|[01]+) )?(put ([^ \n]+) (-|([0-9a-f]{2})+)|drop ([^ \n]+)|(plan|release)( [^ \n]+ (0|[1-9][0-9]{0,8}))*|resume|rollback|status|verify)\z`

// P24.1, P24.4: made-up texts: they are lines just if the chapter's words say so, and then each is the line of its event.
func TestMadeTexts(t *testing.T) {
	r := rand.New(rand.NewSource(1))
	is := regexp.MustCompile(grammar)
	parts := []string{"crash", "put", "drop", "plan", "release", "resume", "rollback", "status", "verify", "0", "1", "01", "10", "-", "2d", "a/b", "a//b", "999999999", "1234567890", "", "\n", "\x00", "x"}
	starts := []string{"", "", "crash 3 01 ", "crash 0 - ", "put a/b ", "put x ", "drop ", "plan ", "release a 1 "}
	lines, crashes, texts := 0, 0, 0
	for range 200000 {
		var l []string
		for range 1 + r.Intn(4) {
			l = append(l, parts[r.Intn(len(parts))])
		}
		s := starts[r.Intn(len(starts))] + strings.Join(l, " ")
		if r.Intn(9) == 0 && s != "" {
			at := r.Intn(len(s))
			s = s[:at] + string([]byte{" \n-01aAgx"[r.Intn(9)]}) + s[at+r.Intn(2):]
		}
		m := is.FindStringSubmatch(s)
		want := m != nil && (m[5] == "" || files.Path(m[5])) && (m[8] == "" || files.Path(m[8]))
		got, e := script.Parse(s)
		if want != (e == api.OK) || !want && (e != api.ErrLine || !isZero(got)) {
			t.Fatalf("%q: %v, %d", s, got, e)
		}
		texts++
		if want {
			lines++
			if script.Line(got) != s {
				t.Fatalf("%q: %v, %q", s, got, script.Line(got))
			}
			if got.Crash {
				crashes++
			}
		}
	}
	if lines < 5000 || crashes < 1000 || texts-lines < 50000 {
		t.Errorf("%d and %d of %d", lines, crashes, texts)
	}
}

// P24.4, P24.1: made-up events: what has a line is read as it was, what has none breaks the chapter's words.
func TestMadeEvents(t *testing.T) {
	r := rand.New(rand.NewSource(2))
	is := regexp.MustCompile(grammar)
	some := func(l ...string) string { return l[r.Intn(len(l))] }
	lines := 0
	for range 100000 {
		e := crash.Event{Cmd: orch.Cmd{Kind: r.Intn(8)}, Crash: r.Intn(2) == 0}
		for range r.Intn(3) * r.Intn(2) {
			e.Cmd.Ops = append(e.Cmd.Ops, api.Op{Gone: r.Intn(3) == 0, Path: some("a", "a/b", "", "a b", ".."), Data: some("", "", "x", " \n", "\xff\x00")})
		}
		for range r.Intn(3) * r.Intn(2) {
			e.Cmd.Wants = append(e.Cmd.Wants, bump.Want{Path: some("a", "a/b", "", "a b", "a\n", "\t"), Level: []int{0, 1, 3, 999999999, -1, 1000000000}[r.Intn(6)]})
		}
		if r.Intn(2) == 0 {
			e.Done = r.Intn(20) - 1
		}
		for range r.Intn(3) * r.Intn(2) {
			e.Keep = append(e.Keep, r.Intn(2) == 0)
		}
		line := script.Line(e)
		if (line != "") != hasLine(e) {
			t.Fatalf("%v: %q", e, line)
		}
		if line == "" {
			continue
		}
		lines++
		if got, err := script.Parse(line); !same(got, e) || err != api.OK || !is.MatchString(line) {
			t.Fatalf("%v: %q, %v, %d", e, line, got, err)
		}
	}
	if lines < 5000 {
		t.Errorf("%d alone", lines)
	}
}

// hasLine tells, by the chapter's words, whether e has a line.
func hasLine(e crash.Event) bool {
	isNumber := func(n int) bool { return n >= 0 && len(strconv.Itoa(n)) <= 9 }
	if e.Crash && !isNumber(e.Done) || !e.Crash && (e.Done != 0 || len(e.Keep) != 0) {
		return false
	}
	ops, wants := e.Cmd.Ops, e.Cmd.Wants
	switch e.Cmd.Kind {
	case orch.Edit:
		return len(wants) == 0 && len(ops) == 1 && files.Path(ops[0].Path) && (!ops[0].Gone || ops[0].Data == "")
	case orch.Plan, orch.Release:
		return len(ops) == 0 && !slices.ContainsFunc(wants, func(w bump.Want) bool {
			return w.Path == "" || strings.Contains(w.Path, " ") || strings.Contains(w.Path, "\n") || !isNumber(w.Level)
		})
	case orch.Resume, orch.Rollback, orch.Status, orch.Verify:
		return len(ops) == 0 && len(wants) == 0
	}
	return false
}

// P24.1, R1: a line of many crashes is none, however many there are.
func TestParseDeep(t *testing.T) {
	s := strings.Repeat("crash 1 - ", 2000000) + "release"
	if got, e := script.Parse(s); !isZero(got) || e != api.ErrLine {
		t.Errorf("%v, %d", got, e)
	}
}

// P24.2: the events of all lines, and how many they are.
func TestScript(t *testing.T) {
	var text strings.Builder
	for n, p := range pairs() {
		for _, end := range []string{"", "\n"} {
			got, count, e := script.Script(text.String() + p.line + end)
			if len(got) != n+1 || count != n+1 || e != api.OK {
				t.Fatalf("%d lines: %d, %d, %d", n+1, len(got), count, e)
			}
			for i, p := range pairs()[:n+1] {
				if !same(got[i], p.e) {
					t.Fatalf("line %d: %v", i, got[i])
				}
			}
		}
		text.WriteString(p.line + "\n")
	}
	if got, n, e := script.Script(""); len(got) != 0 || n != 0 || e != api.OK {
		t.Errorf("%v, %d, %d", got, n, e)
	}
}

// P24.2: the place of the first line that is none.
func TestScriptErrors(t *testing.T) {
	for i, c := range []struct {
		s    string
		want int
	}{
		{"\n", 0}, {"\n\n", 0}, {" ", 0}, {"x", 0}, {"x\nstatus\n", 0}, {"status\n\n", 1}, {"status\n\nverify\n", 1}, {"status\nverify\n ", 2}, {"status\nx\ny\n", 1}, {"status\r\nverify\n", 0}, {"plan a\nb 1\n", 0}, {"status\nplan a 1\nplan a\n1\n", 2}, {"crash 1 -\nrelease\n", 0}, {"status\nverify\ncrash 1 - crash 1 - release", 2}, {"# x\n", 0},
	} {
		if got, n, e := script.Script(c.s); len(got) != 0 || n != c.want || e != api.ErrLine {
			t.Errorf("case %d: %v, %d, %d, want %d", i, got, n, e, c.want)
		}
	}
	for i, s := range wrongLines() {
		if strings.Contains(s, "\n") || s == "" {
			continue
		}
		if got, n, e := script.Script(strings.Repeat("status\n", i) + s); len(got) != 0 || n != i || e != api.ErrLine {
			t.Errorf("%q: %v, %d, %d", s, got, n, e)
		}
	}
}

// P24.3: a result, as lines.
func TestShow(t *testing.T) {
	for _, c := range []struct {
		r    crash.Result
		want string
	}{
		{crash.Result{}, "ok 0\n"}, {crash.Result{Acts: 12}, "ok 12\n"}, {crash.Result{Text: "good\n"}, "good\nok 0\n"}, {crash.Result{Text: "a\nb\n", Acts: 3}, "a\nb\nok 3\n"}, {crash.Result{Text: "x", Acts: 1}, "xok 1\n"}, {crash.Result{Acts: -7}, "ok -7\n"}, {crash.Result{Acts: math.MaxInt}, "ok 9223372036854775807\n"}, {crash.Result{Acts: math.MinInt}, "ok -9223372036854775808\n"}, {crash.Result{Text: "\x00\xff", Acts: 1000000000}, "\x00\xffok 1000000000\n"},
		{crash.Result{Err: api.ErrArg}, "error 1\n"}, {crash.Result{Err: api.ErrOver}, "error 15\n"}, {crash.Result{Err: api.ErrNone, Text: "x", Acts: 3}, "error 5\n"}, {crash.Result{Err: -3}, "error -3\n"}, {crash.Result{Err: 16}, "error 16\n"}, {crash.Result{Err: math.MinInt}, "error -9223372036854775808\n"}, {crash.Result{Err: math.MaxInt, Acts: 1}, "error 9223372036854775807\n"},
	} {
		if got := script.Show(c.r); got != c.want {
			t.Errorf("%v: %q, want %q", c.r, got, c.want)
		}
	}
}

// lines are lines one behind the other.
func lines(l ...string) string { return strings.Join(l, "\n") + "\n" }

// file is a line that puts a file.
func file(path, data string) string {
	return script.Line(put(path, data))
}

// P24.3: what is told of each line, one behind the other.
func TestPlay(t *testing.T) {
	s := lines(file("a/go.mod", "module ex/a\n"), "drop x", "status", "crash 3 01 release", "rollback", "crash 8 - release", "status", "verify", "resume", "verify", "status", "release", "plan ex/a 4", "plan ex/x 1")
	want := "ok 4\nerror 5\nex/a - changed\nok 0\nok 12\nerror 5\nok 12\nstaged\nex/a - changed\nok 0\nerror 14\nok 6\ngood\nok 0\nex/a v0.1.0 same\nok 0\nok 0\nerror 1\nerror 5\n"
	for _, n := range []int{64, 100, 511, 512} {
		if got, e := script.Play(n, s); got != want || e != api.OK {
			t.Errorf("%d: %q, %d", n, got, e)
		}
	}
	for _, n := range []int{8, 9, 512} {
		if got, e := script.Play(n, ""); got != "" || e != api.OK {
			t.Errorf("%d: %q, %d", n, got, e)
		}
		if got, e := script.Play(n, "verify"); got != "good\nok 0\n" || e != api.OK {
			t.Errorf("%d: %q, %d", n, got, e)
		}
	}
	l, _, _ := script.Script(s)
	_, results, _ := crash.Play(300, l)
	var shown string
	for _, r := range results {
		shown += script.Show(r)
	}
	if got, e := script.Play(300, s); got != shown || e != api.OK {
		t.Errorf("%q, %d, want %q", got, e, shown)
	}
}

// P24.3: a script's error, and then the disk's.
func TestPlayErrors(t *testing.T) {
	for _, n := range []int{7, 0, -1, 513, math.MinInt, math.MaxInt} {
		for _, s := range []string{"", "status", lines("status", "verify")} {
			if got, e := script.Play(n, s); got != "" || e != api.ErrArg {
				t.Errorf("%d, %q: %q, %d", n, s, got, e)
			}
		}
		if got, e := script.Play(n, lines("status", "x")); got != "" || e != api.ErrLine {
			t.Errorf("%d: %q, %d", n, got, e)
		}
	}
	for _, n := range []int{8, 64, 512} {
		for _, s := range []string{"\n", "x", lines("status", "verify", ""), lines("status", "crash 1 - x")} {
			if got, e := script.Play(n, s); got != "" || e != api.ErrLine {
				t.Errorf("%d, %q: %q, %d", n, s, got, e)
			}
		}
	}
}

// told is what a script tells on a disk of the most sectors, line by line, from a place on.
func told(t *testing.T, from int, l ...string) []string {
	t.Helper()
	head, e := script.Play(api.MaxSectors, lines(l[:from]...))
	all, f := script.Play(api.MaxSectors, lines(l...))
	if e != api.OK || f != api.OK || !strings.HasPrefix(all, head) {
		t.Fatalf("%q, %d, %q, %d", head, e, all, f)
	}
	return strings.Split(strings.TrimSuffix(all[len(head):], "\n"), "\n")
}

// P4, P5, P6: some of the document's examples of the whole, by its face.
func TestWhole(t *testing.T) {
	repo := []string{file("a/go.mod", "module ex/a\n"), file("b/go.mod", "module ex/b\nrequire ex/a v0.0.1 // x\n"), file("c/go.mod", "module ex/c\nrequire ex/b v0.0.1\n")}
	released := append(slices.Clone(repo), "release", file("a/x.go", "new"))
	// b requires a, c requires b: a changed, so all three are released, in that order.
	got := told(t, 5, append(released, "status", "plan", "release ex/b 2", "release", "verify")...)
	got = slices.DeleteFunc(got, func(s string) bool { return strings.HasPrefix(s, "tag ") })
	want := []string{
		"ex/a v0.1.0 changed", "ex/b v0.1.0 same", "ex/c v0.1.0 same", "ok 0",
		"release ex/a v0.1.0 v0.1.1 1", "release ex/b v0.1.0 v0.1.1 1", "require ex/a v0.1.1", "release ex/c v0.1.0 v0.1.1 1", "require ex/b v0.1.1", "ok 0",
		"release ex/a v0.1.0 v0.1.1 1", "release ex/b v0.1.0 v0.2.0 2", "require ex/a v0.1.1", "release ex/c v0.1.0 v0.1.1 1", "require ex/b v0.2.0", "ok 38",
		// A release right behind a release does nothing; all is good then.
		"ok 0", "good", "ok 0",
	}
	if !slices.Equal(got, want) {
		t.Errorf("%q", got)
	}
	// A crash in a release, wherever it is, and a rollback: all is as it was, or all is released.
	acts := len(told(t, 5, append(released, "release")...))
	if acts == 0 {
		t.Fatal("nothing is released")
	}
	before := strings.Join(told(t, 5, append(released, "status")...), "\n")
	behind := strings.Join(told(t, 6, append(released, "release", "status")...), "\n")
	seen := map[string]int{}
	for done := range 60 {
		for _, keep := range []string{"-", "1", "01", "11111111111111111111"} {
			crashed := append(slices.Clone(released), "crash "+strconv.Itoa(done)+" "+keep+" release", "rollback", "status")
			now := strings.Join(told(t, 7, crashed...), "\n")
			if now != before && now != behind {
				t.Fatalf("%d, %q: %q", done, keep, now)
			}
			seen[now]++
		}
	}
	if seen[before] < 20 || seen[behind] < 20 {
		t.Errorf("%v", seen)
	}
}

// R5, R6: events are memory of their own, what is handed in stays, and it is the same again.
func TestOwnMemory(t *testing.T) {
	for _, p := range pairs() {
		e := p.e
		e.Cmd.Ops, e.Cmd.Wants, e.Keep = slices.Grow(slices.Clone(e.Cmd.Ops), 3), slices.Grow(slices.Clone(e.Cmd.Wants), 3), slices.Grow(slices.Clone(e.Keep), 3)
		for range 2 {
			if got := script.Line(e); got != p.line || !same(e, p.e) {
				t.Fatalf("%v: %q", e, got)
			}
			got, _ := script.Parse(p.line)
			if !same(got, p.e) {
				t.Fatalf("%q: %v", p.line, got)
			}
			clear(got.Cmd.Ops)
			clear(got.Cmd.Wants)
			clear(got.Keep)
		}
	}
	s := lines("put x 31", "crash 1 1 plan a 1", "put x 31")
	l, _, _ := script.Script(s)
	l[0].Cmd.Ops[0].Path = "y"
	l[1].Cmd.Wants[0].Path = "y"
	if again, n, e := script.Script(s); !same(l[2], put("x", "1")) || !same(again[0], put("x", "1")) || !same(again[1], cut(do(orch.Plan, bump.Want{Path: "a", Level: 1}), 1, true)) || n != 3 || e != api.OK {
		t.Errorf("%v, %v, %d, %d", l, again, n, e)
	}
}
