package edit_test

import (
	"math/rand"
	"slices"
	"strconv"
	"strings"
	"testing"

	"armada/api"
	"armada/edit"
	"armada/mani"
	"armada/ver"
)

// v is the version of a text that has one.
func v(s string) api.Ver {
	got, ok := ver.Parse(s)
	if !ok {
		panic(s + " is no version")
	}
	return got
}

func req(path, version string) api.Req { return api.Req{Path: path, Ver: v(version)} }

// whole is a manifest that has all, and says its versions more than once.
const whole = `// require ex/a v1.0.0

module ex/m // its path
go 1.27

require ex/a v1.0.0 // indirect
exclude ex/a v1.0.0
require (
	ex/b/v2 v2.3.4-rc.1

	// ex/c v0.0.0
	ex/c 	 v0.0.0+b.01	// v0.0.0+b.01
)
replace ex/a => ex/c
exclude (
	ex/c v0.0.0+b.01
)
retract [v1.0.0, v1.0.0]
require(//
ex/d v1.0.0
)
`

// wrongTexts are texts that are no manifests, and the error of each.
func wrongTexts() map[string]api.Errno {
	return map[string]api.Errno{
		"": api.ErrNone, "\n": api.ErrNone, "require ex/a v1.0.0\n": api.ErrNone, "module /\nrequire ex/a v1.0.0": api.ErrPath, "module ex/m\nrequire ex/a v1": api.ErrVer, "module ex/m\nrequire ex/a v2.0.0": api.ErrMajor,
		"module ex/m\nrequire ex/a v1.0.0\n\xff": api.ErrWord, "module ex/m\r\nrequire ex/a v1.0.0": api.ErrWord, "module ex/m\nrequire ex/a v1.0.0\nfoo": api.ErrLine, "module ex/m\nrequire (\nex/a v1.0.0\n": api.ErrLine, "module ex/m\nrequire ex/a v1.0.0\nrequire ex/a v1.0.0": api.ErrTwice, whole + whole: api.ErrTwice,
	}
}

// wrongReqs are requirements that are not asked for rightly, and the error of each; ex/a and ex/b/v2 are in whole.
func wrongReqs() map[api.Req]api.Errno {
	below, bad := api.Ver{Major: -1}, api.Ver{Major: 1, Pre: "a..b"}
	return map[api.Req]api.Errno{
		{}: api.ErrPath, {Path: "/", Ver: v("v1.0.0")}: api.ErrPath, {Path: "", Ver: v("v1.0.0")}: api.ErrPath, {Path: "ex/a/", Ver: below}: api.ErrPath, {Path: "ex/a/v1", Ver: v("v1.0.0")}: api.ErrPath, {Path: "v2", Ver: v("v2.0.0")}: api.ErrPath, {Path: "ex/a v1.0.0", Ver: v("v1.0.0")}: api.ErrPath, {Path: "=>", Ver: bad}: api.ErrPath, {Path: strings.Repeat("x", 61), Ver: v("v1.0.0")}: api.ErrPath,
		{Path: "ex/a", Ver: below}: api.ErrVer, {Path: "ex/a", Ver: bad}: api.ErrVer, {Path: "ex/a", Ver: api.Ver{Major: 1, Minor: 1000000000}}: api.ErrVer, {Path: "ex/a", Ver: api.Ver{Major: 2, Pre: "01"}}: api.ErrVer, {Path: "ex/b/v2", Ver: api.Ver{Major: 2, Build: "a\nb"}}: api.ErrVer, {Path: "ex/b/v2", Ver: api.Ver{Major: 2, Build: "-b // x"}}: api.ErrVer,
		{Path: "ex/a", Ver: v("v2.0.0")}: api.ErrMajor, {Path: "ex/b/v2", Ver: v("v1.0.0")}: api.ErrMajor, {Path: "ex/b/v2", Ver: api.Ver{}}: api.ErrMajor, {Path: "ex/b/v2", Ver: v("v3.0.0-rc")}: api.ErrMajor,
	}
}

// answers holds what a call tells of a text and an error, as the promises have it.
func answers(t *testing.T, what string, got string, e api.Errno, want string, wantErr api.Errno) {
	t.Helper()
	if got != want || e != wantErr {
		t.Errorf("%s: %q, %d; want %q, %d", what, got, e, want, wantErr)
	}
}

// allAnswers is the same of All.
func allAnswers(t *testing.T, s string, l []api.Req, want string, wantMany int, wantErr api.Errno) {
	t.Helper()
	was := slices.Clone(l)
	got, n, e := edit.All(s, l)
	if got != want || n != wantMany || e != wantErr {
		t.Errorf("All(%q, %v): %q, %d, %d; want %q, %d, %d", s, l, got, n, e, want, wantMany, wantErr)
	}
	if !slices.Equal(l, was) {
		t.Errorf("All(%q, %v): the list was changed", s, was)
	}
}

// P11.1: the version's word is another one, and all else as it was.
func TestSet(t *testing.T) {
	for _, c := range []struct {
		s, path, version, want string
	}{
		{"module m\nrequire ex/b v1.0.0 // x", "ex/b", "v1.1.0", "module m\nrequire ex/b v1.1.0 // x"},
		{"module m\nrequire ex/b v1.0.0", "ex/b", "v1.10.0-rc.1+b", "module m\nrequire ex/b v1.10.0-rc.1+b"},
		{"module m\nrequire ex/b v1.0.0-rc.1+b\n", "ex/b", "v0.0.0", "module m\nrequire ex/b v0.0.0\n"},
		{"require b v1.0.0\nmodule m", "b", "v1.0.0", "require b v1.0.0\nmodule m"},
		{"require\t b \tv1.0.0\t \nmodule m", "b", "v1.2.3", "require\t b \tv1.2.3\t \nmodule m"},
		{"module m\nrequire (\n\ta v1.0.0\n\tb v1.0.0\n)\n", "b", "v1.2.3", "module m\nrequire (\n\ta v1.0.0\n\tb v1.2.3\n)\n"},
		{"module m\nrequire (\na v1.0.0\nb v1.0.0\n)\n", "a", "v0.1.0", "module m\nrequire (\na v0.1.0\nb v1.0.0\n)\n"},
		{"module m\nexclude a v1.0.0\nreplace a => v1.0.0\nrequire a v1.0.0", "a", "v1.0.1", "module m\nexclude a v1.0.0\nreplace a => v1.0.0\nrequire a v1.0.1"},
		{"module m\nrequire a v1.0.0\nrequire a/v2 v2.0.0", "a/v2", "v2.0.1", "module m\nrequire a v1.0.0\nrequire a/v2 v2.0.1"},
		{"module m\nrequire m v1.0.0", "m", "v1.0.1", "module m\nrequire m v1.0.1"},
		{"module m\nrequire v1.0.0 v1.0.0", "v1.0.0", "v1.0.1", "module m\nrequire v1.0.0 v1.0.1"},
		{whole, "ex/a", "v1.9.0", strings.Replace(whole, "require ex/a v1.0.0 // indirect", "require ex/a v1.9.0 // indirect", 1)},
		{whole, "ex/b/v2", "v2.0.0", strings.Replace(whole, "v2.3.4-rc.1", "v2.0.0", 1)},
		{whole, "ex/c", "v1.0.0+c", strings.Replace(whole, "ex/c \t v0.0.0+b.01", "ex/c \t v1.0.0+c", 1)},
		{whole, "ex/d", "v1.999999999.999999999", strings.Replace(whole, "\nex/d v1.0.0", "\nex/d v1.999999999.999999999", 1)},
	} {
		got, e := edit.Set(c.s, req(c.path, c.version))
		answers(t, "Set "+c.path+" of "+c.s, got, e, c.want, api.OK)
	}
}

// P11.1: the errors, and which of them holds first.
func TestSetWrong(t *testing.T) {
	for _, path := range []string{"ex/m", "ex", "ex/aa", "ex/b", "ex/e", "require", "m", "go", "ex/A"} {
		got, e := edit.Set(whole, req(path, "v1.0.0"))
		answers(t, "Set "+path, got, e, "", api.ErrNone)
	}
	got, e := edit.Set("module m\nexclude a v1.0.0\nreplace a => b\n// require a v1.0.0\n", req("a", "v1.0.0"))
	answers(t, "Set of what is excluded", got, e, "", api.ErrNone)
	got, e = edit.Set(whole, req("ex/a/v2", "v2.0.0"))
	answers(t, "Set of another major", got, e, "", api.ErrNone)
	for r, want := range wrongReqs() {
		got, e := edit.Set(whole, r)
		answers(t, "Set "+r.Path, got, e, "", want)
		got, e = edit.Set("module m", r)
		answers(t, "Set "+r.Path+" of none", got, e, "", want)
	}
	for s, want := range wrongTexts() {
		for _, r := range []api.Req{req("ex/a", "v1.1.0"), req("ex/e", "v1.0.0"), {}, {Path: "ex/a", Ver: api.Ver{Major: 2}}} {
			got, e := edit.Set(s, r)
			answers(t, "Set of "+s, got, e, "", want)
		}
	}
}

// P11.2: a line more, behind all.
func TestAdd(t *testing.T) {
	for _, c := range []struct {
		s, path, version, want string
	}{
		{"module m", "a", "v1.0.0", "module m\nrequire a v1.0.0\n"},
		{"module m\n", "a", "v1.0.0", "module m\nrequire a v1.0.0\n"},
		{"module m\n\n", "a", "v1.0.0", "module m\n\nrequire a v1.0.0\n"},
		{"module m // x", "a/v2", "v2.0.0-rc.1+b.01", "module m // x\nrequire a/v2 v2.0.0-rc.1+b.01\n"},
		{"module m\n ", "a", "v0.0.0", "module m\n \nrequire a v0.0.0\n"},
		{"module m\n//", "a", "v0.0.0", "module m\n//\nrequire a v0.0.0\n"},
		{"module m\nrequire (\n\tb v1.0.0\n)", "a", "v1.0.0", "module m\nrequire (\n\tb v1.0.0\n)\nrequire a v1.0.0\n"},
		{"module m\nrequire a v1.0.0\n", "a/v2", "v2.0.0", "module m\nrequire a v1.0.0\nrequire a/v2 v2.0.0\n"},
		{"module m\nexclude a v1.0.0\nreplace a => b", "a", "v1.0.0", "module m\nexclude a v1.0.0\nreplace a => b\nrequire a v1.0.0\n"},
		{"module m\n", "m", "v1.0.0", "module m\nrequire m v1.0.0\n"},
		{whole, "ex/e", "v1.0.0", whole + "require ex/e v1.0.0\n"},
	} {
		got, e := edit.Add(c.s, req(c.path, c.version))
		answers(t, "Add "+c.path+" to "+c.s, got, e, c.want, api.OK)
	}
}

// P11.2: the errors, and which of them holds first.
func TestAddWrong(t *testing.T) {
	for _, r := range []api.Req{req("ex/a", "v1.0.0"), req("ex/a", "v1.1.0"), req("ex/b/v2", "v2.0.0"), req("ex/c", "v0.0.0+b.01"), req("ex/d", "v1.0.0")} {
		got, e := edit.Add(whole, r)
		answers(t, "Add "+r.Path, got, e, "", api.ErrTwice)
	}
	for r, want := range wrongReqs() {
		for _, s := range []string{whole, "module m"} {
			got, e := edit.Add(s, r)
			answers(t, "Add "+r.Path+" to "+s, got, e, "", want)
		}
	}
	for s, want := range wrongTexts() {
		for _, r := range []api.Req{req("ex/a", "v1.0.0"), req("ex/e", "v1.0.0"), {}, {Path: "ex/e", Ver: api.Ver{Major: 2}}} {
			got, e := edit.Add(s, r)
			answers(t, "Add to "+s, got, e, "", want)
		}
	}
}

// P11.3: a line less.
func TestDrop(t *testing.T) {
	for _, c := range []struct {
		s, path, want string
	}{
		{"module m\nrequire a v1.0.0", "a", "module m\n"},
		{"module m\nrequire a v1.0.0\n", "a", "module m\n"},
		{"module m\nrequire a v1.0.0\n\n", "a", "module m\n\n"},
		{"module m\n\nrequire a v1.0.0", "a", "module m\n\n"},
		{"require a v1.0.0\nmodule m", "a", "module m"},
		{"require a v1.0.0 // x\nmodule m\n", "a", "module m\n"},
		{"module m\nrequire a v1.0.0\ngo 1.27", "a", "module m\ngo 1.27"},
		{"module m\n\t require\ta v1.0.0 \t// require b v1.0.0\ngo 1.27", "a", "module m\ngo 1.27"},
		{"module m\nrequire (\n\ta v1.0.0\n)\n", "a", "module m\nrequire (\n)\n"},
		{"module m\nrequire (\n\ta v1.0.0\n\tb v1.0.0\n)", "a", "module m\nrequire (\n\tb v1.0.0\n)"},
		{"module m\nrequire (\n\ta v1.0.0\n\tb v1.0.0\n)", "b", "module m\nrequire (\n\ta v1.0.0\n)"},
		{"module m\nexclude a v1.0.0\nrequire a v1.0.0\nreplace a => b\n", "a", "module m\nexclude a v1.0.0\nreplace a => b\n"},
		{"module m\nrequire m v1.0.0", "m", "module m\n"},
		{whole, "ex/a", strings.Replace(whole, "require ex/a v1.0.0 // indirect\n", "", 1)},
		{whole, "ex/b/v2", strings.Replace(whole, "\tex/b/v2 v2.3.4-rc.1\n", "", 1)},
		{whole, "ex/c", strings.Replace(whole, "\tex/c \t v0.0.0+b.01\t// v0.0.0+b.01\n", "", 1)},
		{whole, "ex/d", strings.Replace(whole, "ex/d v1.0.0\n", "", 1)},
	} {
		got, e := edit.Drop(c.s, c.path)
		answers(t, "Drop "+c.path+" of "+c.s, got, e, c.want, api.OK)
	}
}

// P11.3: the errors, and which of them holds first.
func TestDropWrong(t *testing.T) {
	for _, path := range []string{"", "/", "ex/m", "ex", "ex/b", "ex/a/v2", "ex/e", "require", "ex/a v1.0.0", "v1.0.0", "\xff", "ex/a/", "(", "\n", strings.Repeat("x", 61)} {
		got, e := edit.Drop(whole, path)
		answers(t, "Drop "+path, got, e, "", api.ErrNone)
	}
	got, e := edit.Drop("module m\nexclude a v1.0.0\nreplace a => b\n// require a v1.0.0\n", "a")
	answers(t, "Drop of what is excluded", got, e, "", api.ErrNone)
	for s, want := range wrongTexts() {
		for _, path := range []string{"ex/a", "ex/e", "", "/"} {
			got, e := edit.Drop(s, path)
			answers(t, "Drop of "+s, got, e, "", want)
		}
	}
}

// P11.4: each that is there is set, one behind the other, and counted; others are left out, right or wrong.
func TestAll(t *testing.T) {
	two := "module m\nrequire a v1.0.0\nrequire b v1.0.0 // x\n"
	bad := api.Ver{Major: -1}
	for _, c := range []struct {
		s    string
		l    []api.Req
		want string
		n    int
	}{
		{"module m", nil, "module m", 0}, {two, nil, two, 0}, {"module m", []api.Req{req("a", "v1.0.0")}, "module m", 0},
		{two, []api.Req{req("a", "v1.1.0")}, "module m\nrequire a v1.1.0\nrequire b v1.0.0 // x\n", 1},
		{two, []api.Req{req("b", "v1.2.0"), req("a", "v1.1.0")}, "module m\nrequire a v1.1.0\nrequire b v1.2.0 // x\n", 2},
		{two, []api.Req{req("a", "v1.0.0"), req("b", "v1.0.0")}, two, 2},
		{two, []api.Req{req("c", "v1.1.0"), req("b", "v0.0.1-rc+b"), req("m", "v1.0.0")}, "module m\nrequire a v1.0.0\nrequire b v0.0.1-rc+b // x\n", 1},
		{two, []api.Req{req("a", "v1.9.0"), req("a", "v1.10.0"), req("b", "v1.1.0"), req("a", "v1.2.0")}, "module m\nrequire a v1.2.0\nrequire b v1.1.0 // x\n", 4},
		{two, []api.Req{req("a", "v1.9.0"), req("a", "v1.0.0")}, two, 2},
		{two, []api.Req{{}, {Path: "/", Ver: bad}, {Path: "c", Ver: bad}, {Path: "c", Ver: v("v2.0.0")}, {Path: "a/v2", Ver: v("v1.0.0")}, {Path: "A", Ver: bad}}, two, 0},
		{two, []api.Req{{Path: "c", Ver: bad}, req("b", "v1.0.1")}, "module m\nrequire a v1.0.0\nrequire b v1.0.1 // x\n", 1},
		{"module m\nexclude a v1.0.0\nreplace a => b", []api.Req{req("a", "v1.1.0"), {Path: "a", Ver: bad}}, "module m\nexclude a v1.0.0\nreplace a => b", 0},
		{whole, []api.Req{req("ex/d", "v1.1.0"), req("ex/e", "v1.1.0"), req("ex/a", "v1.1.0"), req("ex/b/v2", "v2.4.0")}, strings.NewReplacer("require ex/a v1.0.0 //", "require ex/a v1.1.0 //", "v2.3.4-rc.1", "v2.4.0", "\nex/d v1.0.0", "\nex/d v1.1.0").Replace(whole), 3},
	} {
		allAnswers(t, c.s, c.l, c.want, c.n, api.OK)
	}
	many := slices.Repeat([]api.Req{req("a", "v1.1.0"), req("c", "v1.0.0"), req("b", "v1.2.0"), req("a", "v1.3.0")}, 300)
	allAnswers(t, two, many, "module m\nrequire a v1.3.0\nrequire b v1.2.0 // x\n", 900, api.OK)
}

// P11.4: the errors, and which of them holds first.
func TestAllWrong(t *testing.T) {
	for s, want := range wrongTexts() {
		for _, l := range [][]api.Req{nil, {req("ex/a", "v1.1.0")}, {req("ex/e", "v1.0.0")}, {{}}, {{Path: "ex/a", Ver: api.Ver{Major: 2}}}} {
			allAnswers(t, s, l, "", 0, want)
		}
	}
	for r, want := range wrongReqs() {
		if want == api.ErrPath {
			allAnswers(t, whole, []api.Req{r}, whole, 0, api.OK)
			continue
		}
		other := api.Req{Path: "ex/c", Ver: api.Ver{Major: 2}}
		if want == api.ErrMajor {
			other.Ver = api.Ver{Major: -1}
		}
		allAnswers(t, whole, []api.Req{r}, "", 0, want)
		allAnswers(t, whole, []api.Req{req("ex/c", "v1.0.0"), req("ex/e", "v1.0.0"), r}, "", 0, want)
		allAnswers(t, whole, []api.Req{{}, r, other, req("ex/c", "v1.0.0")}, "", 0, want)
	}
}

// line is a line of a manifest, with the byte 10 behind it, if it has one: what stands ahead of the version that a requirement has, that, and what stands behind it. Another line is all head.
type line struct {
	path, head, version, tail string
}

func joined(l []line) string {
	var out strings.Builder
	for _, x := range l {
		out.WriteString(x.head + x.version + x.tail)
	}
	return out.String()
}

// pick is a path of some, and a version that fits it.
func pick(r *rand.Rand) (string, string) {
	major := r.Intn(4)
	path := "ex/" + string([]byte{byte('a' + r.Intn(5))})
	if major > 1 {
		path += "/v" + strconv.Itoa(major)
	}
	u := api.Ver{Major: major, Minor: r.Intn(3), Patch: r.Intn(1000000000), Pre: []string{"", "rc.1", "0", "-"}[r.Intn(4)], Build: []string{"", "01", "a-b"}[r.Intn(3)]}
	return path, ver.Text(u)
}

// randomLines are the lines of a manifest, in which much looks like a requirement.
func randomLines(r *rand.Rand) []line {
	tails := []string{"", " ", "\t// x", " // require ex/a v1.0.0", " //"}
	tail := func() string { return tails[r.Intn(len(tails))] + "\n" }
	gap := func() string { return []string{" ", "\t", "  ", " \t"}[r.Intn(4)] }
	var l []line
	other := func(s string) { l = append(l, line{head: s + tail()}) }
	used := map[string]bool{}
	want := func(verb string) {
		if path, version := pick(r); !used[path] {
			used[path] = true
			l = append(l, line{path: path, head: verb + gap() + path + gap(), version: version, tail: tail()})
		}
	}
	module := r.Intn(12)
	for i := range 12 {
		path, version := pick(r)
		switch {
		case i == module:
			other("module ex/m")
		case r.Intn(3) == 0:
			want("require")
		case r.Intn(3) == 0:
			other(gap() + "require" + gap() + "(")
			for range r.Intn(4) {
				want("")
			}
			other(")")
		case r.Intn(2) == 0:
			other([]string{"", " ", "// " + path + " " + version, "//require " + path + " " + version}[r.Intn(4)])
		case !used["e"+path+version]:
			used["e"+path+version] = true
			other("exclude " + path + gap() + version)
			other("retract" + gap() + "[" + version + "," + version + "]")
		}
	}
	if last := &l[len(l)-1]; r.Intn(2) == 0 {
		*last = line{last.path, strings.TrimSuffix(last.head, "\n"), last.version, strings.TrimSuffix(last.tail, "\n")}
	}
	return l
}

// says is the manifest that s is.
func says(t *testing.T, s string) mani.Mani {
	t.Helper()
	m, _, e := mani.Parse(s)
	if e != api.OK {
		t.Fatalf("%q is no manifest: %d", s, e)
	}
	return m
}

// where is the place of the requirement of a path in m.
func where(m mani.Mani, path string) int {
	return slices.IndexFunc(m.Reqs, func(q api.Req) bool { return q.Path == path })
}

// P11.1, P11.5: of all requirements: the text is as it should be, says what it said but for that version, and a version that is set back gives the text that there was.
func TestSetOfAll(t *testing.T) {
	r := rand.New(rand.NewSource(1))
	for range 200 {
		l := randomLines(r)
		s := joined(l)
		for i, x := range l {
			if x.path == "" {
				continue
			}
			q := req(x.path, x.version)
			q.Ver.Minor, q.Ver.Pre = r.Intn(1000000000), []string{"", "rc.10", "a-b.c"}[r.Intn(3)]
			want := slices.Clone(l)
			want[i].version = ver.Text(q.Ver)
			got, e := edit.Set(s, q)
			answers(t, "Set "+x.path+" of "+s, got, e, joined(want), api.OK)
			m := says(t, s)
			m.Reqs[where(m, x.path)].Ver = q.Ver
			if !mani.Same(says(t, got), m) {
				t.Fatalf("Set %s of %q says something else", x.path, s)
			}
			back, e := edit.Set(got, req(x.path, x.version))
			answers(t, "Set back "+x.path, back, e, s, api.OK)
		}
	}
}

// P11.2, P11.3, P11.5: of all requirements: what is dropped is the line, and nothing else; what is added is there, and dropped again.
func TestDropAndAddOfAll(t *testing.T) {
	r := rand.New(rand.NewSource(2))
	for range 200 {
		l := randomLines(r)
		s := joined(l)
		for i, x := range l {
			if x.path == "" {
				continue
			}
			less, e := edit.Drop(s, x.path)
			answers(t, "Drop "+x.path+" of "+s, less, e, joined(slices.Delete(slices.Clone(l), i, i+1)), api.OK)
			m := says(t, s)
			at := where(m, x.path)
			q := m.Reqs[at]
			m.Reqs = slices.Delete(m.Reqs, at, at+1)
			if !mani.Same(says(t, less), m) {
				t.Fatalf("Drop %s of %q says something else", x.path, s)
			}
			more, e := edit.Add(less, q)
			m.Reqs = append(m.Reqs, q)
			if e != api.OK || !mani.Same(says(t, more), m) || !strings.HasPrefix(more, less) {
				t.Fatalf("Add %s to %q: %q, %d", x.path, less, more, e)
			}
			again, e := edit.Drop(more, x.path)
			if !strings.HasSuffix(less, "\n") {
				less += "\n"
			}
			answers(t, "Drop again "+x.path, again, e, less, api.OK)
		}
	}
}

// P11.4, P11.5: many at once are what Set makes of them, one behind the other.
func TestAllOfAll(t *testing.T) {
	r := rand.New(rand.NewSource(3))
	for range 300 {
		l := randomLines(r)
		s := joined(l)
		var asked []api.Req
		want, n := slices.Clone(l), 0
		for range r.Intn(20) {
			path, version := pick(r)
			asked = append(asked, req(path, version))
			if at := slices.IndexFunc(l, func(x line) bool { return x.path == path }); at >= 0 {
				want[at].version = version
				n++
			}
		}
		allAnswers(t, s, asked, joined(want), n, api.OK)
	}
}

// R1, R3: of anything at all: a manifest, or nothing and an error.
func TestAnything(t *testing.T) {
	const spoil = "\n (),/v1\xff"
	r := rand.New(rand.NewSource(4))
	for range 2000 {
		b := []byte(joined(randomLines(r)))
		for range r.Intn(4) {
			b[r.Intn(len(b))] = spoil[r.Intn(len(spoil))]
		}
		s := string(b)
		path, version := pick(r)
		q := req(path, version)
		_, _, wrong := mani.Parse(s)
		for i, call := range []func() (string, api.Errno){
			func() (string, api.Errno) { return edit.Set(s, q) },
			func() (string, api.Errno) { return edit.Add(s, q) },
			func() (string, api.Errno) { return edit.Drop(s, path) },
			func() (string, api.Errno) { got, _, e := edit.All(s, []api.Req{q}); return got, e },
		} {
			got, e := call()
			if wrong != api.OK && e != wrong || e != api.OK && got != "" {
				t.Fatalf("call %d of %q: %q, %d", i, s, got, e)
			}
			if e == api.OK {
				says(t, got)
			}
		}
	}
}
