package mani_test

import (
	"math/rand"
	"slices"
	"strconv"
	"strings"
	"testing"

	"armada/api"
	"armada/lex"
	"armada/mani"
	"armada/ver"
)

// v is the version of a text that has one.
func v(s string) api.Ver {
	got, ok := ver.Parse(s)
	if !ok {
		panic(s + " is no version")
	}
	return got
}

func req(path, version string) api.Req { return api.Req{Path: path, Ver: v(version)} }

func span(low, high string) mani.Span { return mani.Span{Low: v(low), High: v(high)} }

// same holds two manifests against each other, without the call that is tested.
func same(a, b mani.Mani) bool { return told(a) == told(b) }

func told(m mani.Mani) string {
	var out strings.Builder
	put := func(words ...string) {
		for _, w := range words {
			out.WriteString(strconv.Quote(w))
		}
		out.WriteString("\n")
	}
	put(m.Module, m.Go)
	for _, r := range m.Reqs {
		put("r", r.Path, text(r.Ver))
	}
	for _, s := range m.Swaps {
		put("s", s.Path, s.Dir)
	}
	for _, r := range m.Excludes {
		put("e", r.Path, text(r.Ver))
	}
	for _, s := range m.Retracts {
		put("t", text(s.Low), text(s.High))
	}
	return out.String()
}

// text tells each field of a version, be it one that may be or not.
func text(v api.Ver) string {
	return strconv.Itoa(v.Major) + " " + strconv.Itoa(v.Minor) + " " + strconv.Itoa(v.Patch) + strconv.Quote(v.Pre) + strconv.Quote(v.Build)
}

// parsed holds what Parse tells of a manifest.
func parsed(t *testing.T, s string, want mani.Mani) {
	t.Helper()
	got, n, e := mani.Parse(s)
	if e != api.OK || n != len(lex.Split(s)) || !same(got, want) {
		t.Errorf("Parse(%q): %v, %d, %d; want %v", s, got, n, e, want)
	}
}

// refused holds the error that Parse tells of a text, and that Where tells nothing of it.
func refused(t *testing.T, s string, line int, want api.Errno) {
	t.Helper()
	got, n, e := mani.Parse(s)
	if e != want || n != line || !same(got, mani.Mani{}) {
		t.Errorf("Parse(%q): %v, %d, %d; want %d, %d", s, got, n, e, line, want)
	}
	for _, p := range []string{"", "ex/a", "ex/b", "ex/m"} {
		if from, to, ok := mani.Where(s, p); from != 0 || to != 0 || ok {
			t.Errorf("Where(%q, %q): %d, %d", s, p, from, to)
		}
	}
}

// whole is a manifest that has all.
const whole = `// what it is

module ex/m // its path
go 1.27

require ex/a v1.0.0 // indirect
require (
	ex/b/v2 v2.3.4-rc.1

	// a remark
	ex/c v0.0.0+b.01	// more
)
exclude(// no blank
)
exclude (
)
exclude ex/a v1.0.1
replace(
ex/a => b
  ex/b/v2	=>	c/d.e
)
retract v1.0.0
retract [ v1.0.0 , v1.0.0 ]
retract[v1.1.0,v1.2.0]
retract (
[v1.5.0, v1.6.0-rc]
v2.0.0
)
exclude ( //
	ex/a v1.0.0
	ex/a v1.0.2
)
`

// P10.1: what lines add.
func TestParse(t *testing.T) {
	m := mani.Mani{Module: "ex/m"}
	parsed(t, "module ex/m", m)
	parsed(t, "module ex/m\n", m)
	parsed(t, "\n\n \t module\tex/m // x\n\n// y\n\n", m)
	parsed(t, "go 1.27\nmodule ex/m", mani.Mani{Module: "ex/m", Go: "1.27"})
	parsed(t, "retract v3.0.0\nmodule ex/m/v2", mani.Mani{Module: "ex/m/v2", Retracts: []mani.Span{span("v3.0.0", "v3.0.0")}})
	parsed(t, "module module\nrequire go v1.0.0\nrequire (\nrequire v1.0.0\nexclude v1.1.0\n)\nreplace (\nreplace => retract\n)", mani.Mani{Module: "module", Reqs: []api.Req{req("go", "v1.0.0"), req("require", "v1.0.0"), req("exclude", "v1.1.0")}, Swaps: []mani.Swap{{Path: "replace", Dir: "retract"}}})
	parsed(t, "module ex/m\nrequire ex/m v1.0.0\nexclude ex/m v1.0.0\nreplace ex/m => ex/m\n", mani.Mani{Module: "ex/m", Reqs: []api.Req{req("ex/m", "v1.0.0")}, Excludes: []api.Req{req("ex/m", "v1.0.0")}, Swaps: []mani.Swap{{Path: "ex/m", Dir: "ex/m"}}})
	parsed(t, "module x\nrequire (\n)\nexclude (\n)\nreplace (\n)\nretract (\n\n)\nrequire (\n)", mani.Mani{Module: "x"})
	parsed(t, whole, mani.Mani{
		Module: "ex/m", Go: "1.27",
		Reqs:     []api.Req{req("ex/a", "v1.0.0"), req("ex/b/v2", "v2.3.4-rc.1"), req("ex/c", "v0.0.0+b.01")},
		Swaps:    []mani.Swap{{Path: "ex/a", Dir: "b"}, {Path: "ex/b/v2", Dir: "c/d.e"}},
		Excludes: []api.Req{req("ex/a", "v1.0.1"), req("ex/a", "v1.0.0"), req("ex/a", "v1.0.2")},
		Retracts: []mani.Span{span("v1.0.0", "v1.0.0"), span("v1.0.0", "v1.0.0"), span("v1.1.0", "v1.2.0"), span("v1.5.0", "v1.6.0-rc"), span("v2.0.0", "v2.0.0")},
	})
	for from, to := range map[string]string{"\tex/a v1.0.2": "\tex/a v1.0.2)", "ex/a => b": "ex/a=>b", "go 1.27": "go 1.27, 1.28", "retract[": "retract(", "v2.0.0\n": "retract v2.0.0\n"} {
		refused(t, strings.Replace(whole, from, to, 1), strings.Count(whole[:strings.Index(whole, from)], "\n"), api.ErrLine)
	}
}

// right are statements, without their verbs, that each verb has.
func right() map[string][]string {
	return map[string][]string{
		"module":  {"ex/a", "a", "ex/a/v2", "ex/a/v999999999", "ex/v", strings.Repeat("x", 60)},
		"go":      {"1.27", "0.0", "1.0", "0.1", "999999999.999999999", "10.20", "100.0"},
		"require": {"ex/a v1.0.0", "ex/a v0.0.0", "ex/a/v2 v2.0.0", "a v1.0.0-rc.1+b.01", "ex/a v1.999999999.999999999", "ex/a v1.0.0--"},
		"exclude": {"ex/a v1.0.0", "ex/a v0.0.0", "ex/a/v2 v2.0.0", "a v1.0.0-rc.1+b.01", "a v0.5.0"},
		"replace": {"ex/a => b", "ex/a => b/c", "ex/a/v2 => v2", "ex/a => v2/b", "ex/a => v1", "ex/a => ...", "ex/a => " + strings.Repeat("x", 60), "a => a"},
		"retract": {"v1.0.0", "v0.0.0-a+b", "v999999999.0.0", "[v1.0.0, v1.0.0]", "[v1.0.0-rc, v1.0.0]", "[v1.0.0+b, v1.0.0+a]", "[ v1.0.0 , v2.0.0 ]", "[v1.0.0,v2.0.0]", "v3.0.0", "[v1.0.0-1, v1.0.0-a]", "[ v0.9.0,v0.10.0]"},
	}
}

// wrong are statements, without their verbs, and the error of each.
func wrong() map[string]map[string]api.Errno {
	return map[string]map[string]api.Errno{
		"module": {
			"": api.ErrLine, "ex/a ex/b": api.ErrLine, "(": api.ErrLine, ")": api.ErrLine, "[": api.ErrLine, "]": api.ErrLine, ",": api.ErrLine, "=>": api.ErrLine, "ex/a,": api.ErrLine, "[ex/a]": api.ErrLine, "(ex/a)": api.ErrLine, "/ v1": api.ErrLine, "=> ex/a": api.ErrLine,
			"/": api.ErrPath, "ex/a/": api.ErrPath, "v2": api.ErrPath, "ex/a/v1": api.ErrPath, "ex/v2/a": api.ErrPath, "a/..": api.ErrPath, "a=>": api.ErrPath, "ex//a": api.ErrPath, strings.Repeat("x", 61): api.ErrPath, "\"ex/a\"": api.ErrPath, "a//": api.ErrPath,
		},
		"go": {
			"": api.ErrLine, "1 27": api.ErrLine, "1.27 1.28": api.ErrLine, "(": api.ErrLine, ")": api.ErrLine, "=>": api.ErrLine, "[1.27]": api.ErrLine, "1,27": api.ErrLine, ",": api.ErrLine, "[": api.ErrLine, "]": api.ErrLine, "1. 27": api.ErrLine,
			"1": api.ErrVer, "1.": api.ErrVer, ".1": api.ErrVer, ".": api.ErrVer, "1.2.3": api.ErrVer, "1..2": api.ErrVer, "1.27.": api.ErrVer, ".1.27": api.ErrVer, "01.2": api.ErrVer, "1.02": api.ErrVer, "1.00": api.ErrVer, "00.1": api.ErrVer, "v1.2": api.ErrVer, "1.2rc1": api.ErrVer, "-1.2": api.ErrVer, "1.-2": api.ErrVer, "+1.2": api.ErrVer, "1.+2": api.ErrVer, "1.x": api.ErrVer, "x": api.ErrVer, "1000000000.1": api.ErrVer, "1.1000000000": api.ErrVer, "1.0000000001": api.ErrVer, "1/2": api.ErrVer, "1:2": api.ErrVer, "1.2/": api.ErrVer, "1.2:": api.ErrVer, "1.27//": api.ErrVer, "127": api.ErrVer, "99999999999999999999.1": api.ErrVer, "1_0.1": api.ErrVer, "0x1.1": api.ErrVer, "1e1.1": api.ErrVer,
		},
		"require": wrongReqs(), "exclude": wrongReqs(),
		"replace": {
			"": api.ErrLine, "ex/a": api.ErrLine, "ex/a b": api.ErrLine, "ex/a =>": api.ErrLine, "=> b": api.ErrLine, "ex/a b c": api.ErrLine, "ex/a = b": api.ErrLine, "ex/a -> b": api.ErrLine, "ex/a => b c": api.ErrLine, "ex/a => b v1.0.0": api.ErrLine, "ex/a v1.0.0 => b": api.ErrLine, "ex/a=>b": api.ErrLine, "ex/a=> b": api.ErrLine, "ex/a =>b": api.ErrLine, "=> => b": api.ErrLine, "ex/a => =>": api.ErrLine, "ex/a => (": api.ErrLine, "( => b": api.ErrLine, "ex/a ( b": api.ErrLine, "ex/a , b": api.ErrLine, "ex/a => [": api.ErrLine, "ex/a => ]": api.ErrLine, ") => b": api.ErrLine, "ex/a => b,": api.ErrLine, "ex/a => )": api.ErrLine, "=> ex/a b": api.ErrLine, "ex/a b =>": api.ErrLine, "/ x /": api.ErrLine, "( ex/a => b": api.ErrLine,
			"/ => b": api.ErrPath, "ex/a => /": api.ErrPath, "ex/a => ./b": api.ErrPath, "ex/a => ../b": api.ErrPath, "ex/a => .": api.ErrPath, "ex/a => /b": api.ErrPath, "ex/a => b/": api.ErrPath, "ex/a/v1 => b": api.ErrPath, "v2 => v2": api.ErrPath, "v2/a => b": api.ErrPath, "/ => /": api.ErrPath, "ex/a => b//c": api.ErrPath, "ex/a => " + strings.Repeat("x", 61): api.ErrPath, strings.Repeat("x", 61) + " => b": api.ErrPath, "ex/a => b:c": api.ErrPath,
		},
		"retract": {
			"": api.ErrLine, "v1.0.0 v1.1.0": api.ErrLine, "[v1.0.0]": api.ErrLine, "[v1.0.0, ]": api.ErrLine, "[, v1.0.0]": api.ErrLine, "[,]": api.ErrLine, "[]": api.ErrLine, "[": api.ErrLine, "]": api.ErrLine, ",": api.ErrLine, ")": api.ErrLine, "=>": api.ErrLine, "v1.0.0, v1.1.0": api.ErrLine, "[v1.0.0, v1.1.0": api.ErrLine, "v1.0.0, v1.1.0]": api.ErrLine, "[v1.0.0 v1.1.0]": api.ErrLine, "(v1.0.0, v1.1.0)": api.ErrLine, "[v1.0.0, v1.1.0)": api.ErrLine, "(v1.0.0, v1.1.0]": api.ErrLine, "]v1.0.0, v1.1.0[": api.ErrLine, "[v1.0.0, v1.1.0, v1.2.0]": api.ErrLine, "[v1.0.0, v1.1.0] v1.2.0": api.ErrLine, "[v1.0.0 => v1.1.0]": api.ErrLine, "[v1.0.0, v1.1.0],": api.ErrLine, "[=>, v1.1.0]": api.ErrLine, "[v1.0.0, =>]": api.ErrLine, "[[, v1.0.0]": api.ErrLine, "[x x x]": api.ErrLine, "x x x x x": api.ErrLine, "[v1.0.0 x v1.1.0]": api.ErrLine, "x v1.0.0, v1.1.0]": api.ErrLine, "[v1.0.0, v1.1.0 x": api.ErrLine, "ex/a v1.0.0": api.ErrLine,
			"ex/a": api.ErrVer, "1.0.0": api.ErrVer, "v1.0": api.ErrVer, "v01.0.0": api.ErrVer, "[v1, v1.0.0]": api.ErrVer, "[v1.0.0, v2]": api.ErrVer, "[v2.0.0, v1.0.0]": api.ErrVer, "[v1.0.0, v1.0.0-rc]": api.ErrVer, "[v1.0.10, v1.0.9]": api.ErrVer, "[v1.0.1+a, v1.0.0+b]": api.ErrVer, "[x, y]": api.ErrVer, "v1000000000.0.0": api.ErrVer, "[v1.0.0-" + strings.Repeat("x", 31) + ", v2.0.0]": api.ErrVer, "x": api.ErrVer, "[v1.0.0, x]": api.ErrVer, "[x, v1.0.0]": api.ErrVer, "[v0.0.0, x]": api.ErrVer, "[v0.0.0-a, v0.0]": api.ErrVer, "[x, v0.0.0]": api.ErrVer,
		},
	}
}

// wrongReqs are words that are no path and a version.
func wrongReqs() map[string]api.Errno {
	return map[string]api.Errno{
		"": api.ErrLine, "ex/a": api.ErrLine, "v1.0.0": api.ErrLine, "ex/a v1.0.0 v1.1.0": api.ErrLine, "ex/a v1.0.0 indirect": api.ErrLine, "ex/a => v1.0.0": api.ErrLine, "ex/a =>": api.ErrLine, "=> v1.0.0": api.ErrLine, "( v1.0.0": api.ErrLine, "ex/a )": api.ErrLine, "ex/a (": api.ErrLine, "ex/a [": api.ErrLine, "ex/a ,": api.ErrLine, "] v1.0.0": api.ErrLine, "[ v1.0.0": api.ErrLine, ", v1.0.0": api.ErrLine, ") v1.0.0": api.ErrLine, "ex/a ]": api.ErrLine, "ex/a, v1.0.0": api.ErrLine, "(ex/a v1.0.0)": api.ErrLine, "( ex/a v1.0.0": api.ErrLine, "ex/a v1.0.0 )": api.ErrLine, "( (": api.ErrLine, "( )": api.ErrLine, ")": api.ErrLine, "/ v1 x": api.ErrLine, "[v1.0.0, v1.1.0]": api.ErrLine,
		"/ v1.0.0": api.ErrPath, "v1.0.0 ex/a": api.ErrVer, "/ v1": api.ErrPath, "ex/a/ v1.0.0": api.ErrPath, "v2 v2.0.0": api.ErrPath, "ex/a/v1 v1.0.0": api.ErrPath, "ex/a/v0 v0.1.0": api.ErrPath, "ex/v2/a v1.0.0": api.ErrPath, "ex/a/v02 v2.0.0": api.ErrPath, "../a x": api.ErrPath, strings.Repeat("x", 61) + " v1.0.0": api.ErrPath,
		"ex/a 1.0.0": api.ErrVer, "ex/a v1.0": api.ErrVer, "ex/a v1": api.ErrVer, "ex/a latest": api.ErrVer, "ex/a ex/b": api.ErrVer, "ex/a v2": api.ErrVer, "ex/a v01.0.0": api.ErrVer, "ex/a/v2 v1": api.ErrVer, "ex/a v1.0.0-01": api.ErrVer, "ex/a v1.0.0+": api.ErrVer, "ex/a v1.0.0//": api.ErrVer, "ex/a v1.1000000000.0": api.ErrVer,
		"ex/a v2.0.0": api.ErrMajor, "ex/a/v2 v1.0.0": api.ErrMajor, "ex/a/v2 v0.0.0": api.ErrMajor, "ex/a/v2 v3.0.0": api.ErrMajor, "a v999999999.0.0": api.ErrMajor, "ex/a v2.0.0-rc": api.ErrMajor, "ex/a/v3 v2.0.0+incompatible": api.ErrMajor,
	}
}

// hasBlocks tells of which verbs there are blocks.
func hasBlocks(verb string) bool { return verb != "module" && verb != "go" }

// P10.1: each statement, alone and in a block of its verb.
func TestStatements(t *testing.T) {
	for verb, l := range right() {
		for _, s := range l {
			for _, line := range []string{verb + " " + s, "\t" + verb + "\t" + s + " // r", verb + "  " + strings.ReplaceAll(s, " ", "\t ") + " "} {
				if verb == "module" {
					checkRight(t, line+"\n", 0)
					continue
				}
				checkRight(t, "module ex/m\n"+line, 1)
				checkRight(t, line+"\nmodule ex/m\n", 1)
			}
			if hasBlocks(verb) {
				checkRight(t, "module ex/m\n"+verb+" (\n"+s+"\n)\n", 1)
				checkRight(t, "module ex/m\n"+verb+"(//x\n\n// y\n\t"+s+" // z\n\t) // )\n", 1)
			}
		}
	}
}

// checkRight holds that s is a manifest, of so many statements beside the module's.
func checkRight(t *testing.T, s string, many int) {
	t.Helper()
	m, n, e := mani.Parse(s)
	got := len(m.Reqs) + len(m.Swaps) + len(m.Excludes) + len(m.Retracts)
	if m.Go != "" {
		got++
	}
	if e != api.OK || n != len(lex.Split(s)) || m.Module == "" || got != many {
		t.Errorf("Parse(%q): %v, %d, %d", s, m, n, e)
	}
}

// P10.1: each wrong statement, alone and in a block of its verb.
func TestWrongStatements(t *testing.T) {
	for verb, l := range wrong() {
		for s, e := range l {
			line := strings.TrimRight(verb+" "+s, " ")
			refused(t, line, 0, e)
			refused(t, "\n"+line+" // x\nmodule ex/m\n", 1, e)
			if verb != "module" {
				refused(t, "module ex/m\n\n"+line+"\nfoo", 2, e)
			}
			if hasBlocks(verb) && s != "" && s != ")" {
				refused(t, "module ex/m\n"+verb+" (\n\n"+s+"\n)\n", 3, e)
				refused(t, verb+" (\n"+s, 1, e)
			}
		}
	}
}

// P10.1: a line in a block has no verb, its block's or another one.
func TestVerbInBlock(t *testing.T) {
	for _, block := range []string{"require", "exclude", "replace", "retract"} {
		for verb, l := range right() {
			for _, s := range l {
				e := api.ErrLine
				if two := len(strings.Fields(s)) == 1 && !strings.Contains(s, "["); two && (block == "require" || block == "exclude") {
					// The verb is a module's path there, and what stands behind it a version, or none.
					if e = api.ErrVer; verb == "retract" {
						continue
					}
				}
				refused(t, "module ex/m\n"+block+" (\n"+verb+" "+s+"\n)", 2, e)
			}
		}
	}
}

// P10.1: lines that are no lines, and blocks.
func TestWrongLines(t *testing.T) {
	for _, s := range []string{
		"foo", "Module ex/a", "modul ex/a", "module: ex/a", "requires ex/a v1.0.0", "REQUIRE ex/a v1.0.0", "toolchain go1.27", "use a", "ex/a v1.0.0", "v1.0.0", "x", "=>", "(", ")", "[", "]", ",", "( require", "( )", ") (", "=> require ex/a v1.0.0", "/ // x", "a//b",
		"require( (", "require (( ", "require ( )", "require()", "require ) (", "require (ex/a v1.0.0", "require (ex/a v1.0.0)", "require ()", "require => (", "require [", "retract ( v1.0.0", "retract (v1.0.0)", "retract ( )", "exclude ( x", "replace ( =>", "module (", "go (", "module(", "go( // x", "foo (", "x ( ", "( (",
	} {
		refused(t, s, 0, api.ErrLine)
		refused(t, "module ex/m\n\n"+s+"\nmodule /\n", 2, api.ErrLine)
		refused(t, "module ex/m\nrequire (\n)\n"+s+"\n)\n", 3, api.ErrLine)
	}
	for _, verb := range []string{"require", "exclude", "replace", "retract"} {
		for _, s := range []string{"(", "( )", ") )", ")(", ") // x\n)", "()", verb + " (", ") " + verb, "require (", verb + " )", ", )"} {
			at := 2 + strings.Count(s, "\n")
			refused(t, "module ex/m\n"+verb+" (\n"+s+"\n)\n", at, api.ErrLine)
		}
		// A block that does not end, told behind all lines.
		refused(t, "module ex/m\n"+verb+" (", 2, api.ErrLine)
		refused(t, "module ex/m\n"+verb+" (\n\n", 3, api.ErrLine)
		refused(t, verb+" (\n", 1, api.ErrLine)
		refused(t, "module ex/m\n"+verb+" (\n)\n"+verb+" (\n// )\n", 5, api.ErrLine)
	}
	refused(t, "", 0, api.ErrNone)
	refused(t, "\n", 1, api.ErrNone)
	refused(t, "// module ex/m\n\n", 2, api.ErrNone)
	refused(t, "go 1.27\nrequire ex/a v1.0.0", 2, api.ErrNone)
	refused(t, "require (\nmodule v1.0.0\n)\n", 3, api.ErrNone)
}

// P10.1: a line that is none of bytes comes ahead of all other errors.
func TestWrongBytes(t *testing.T) {
	for _, bad := range []string{"\x00", "a\r", "// ä", "module ex/m\r", "\x7f", "\x1f"} {
		refused(t, bad, 0, api.ErrWord)
		refused(t, "foo\nmodule /\n"+bad+"\n", 2, api.ErrWord)
		refused(t, "module ex/m\nmodule ex/m\n\n"+bad+"\n\xff", 3, api.ErrWord)
		refused(t, "require (\n"+bad, 1, api.ErrWord)
		refused(t, "module ex/m\n"+bad+"\nfoo", 1, api.ErrWord)
	}
}

// P10.1: what is said twice.
func TestTwice(t *testing.T) {
	for _, c := range []struct {
		first, second string
		e             api.Errno
	}{
		{"go 1.27", "go 1.27", api.ErrTwice}, {"go 1.27", "go 1.28", api.ErrTwice}, {"go 1.27", "go 1", api.ErrVer}, {"", "module ex/m", api.ErrTwice}, {"", "module ex/n", api.ErrTwice}, {"", "module /", api.ErrPath}, {"", "module ex/m ex/n", api.ErrLine}, {"go 1.27", "go", api.ErrLine},
		{"require ex/a v1.0.0", "require ex/a v1.0.0", api.ErrTwice}, {"require ex/a v1.0.0", "require ex/a v1.1.0", api.ErrTwice}, {"require ex/a v1.0.0", "require ex/a v2.0.0", api.ErrMajor}, {"require ex/a v1.0.0", "require ex/a v1", api.ErrVer}, {"require ex/a v1.0.0", "require ex/b v1.0.0", api.OK}, {"require ex/a v1.0.0", "require ex/a/v2 v2.0.0", api.OK}, {"require ex/a v1.0.0", "exclude ex/a v1.0.0", api.OK}, {"require ex/a v1.0.0", "exclude ex/a v0.0.0", api.OK}, {"require ex/a v0.0.0", "exclude ex/a v0.0.0", api.OK}, {"replace ex/a => b", "exclude ex/a v0.0.0", api.OK}, {"require ex/a v1.0.0", "replace ex/a => b", api.OK}, {"require ex/a v1.0.0", "require ex/A v1.0.0", api.OK},
		{"exclude ex/a v1.0.0", "exclude ex/a v1.0.0", api.ErrTwice}, {"exclude ex/a v1.0.0", "exclude ex/a v1.0.1", api.OK}, {"exclude ex/a v1.0.0", "exclude ex/b v1.0.0", api.OK}, {"exclude ex/a v1.0.0", "exclude ex/a v1.0.0-rc", api.OK}, {"exclude ex/a v1.0.0", "exclude ex/a v1.0.0+b", api.OK}, {"exclude ex/a v1.0.0+b", "exclude ex/a v1.0.0+b", api.ErrTwice}, {"exclude ex/a v1.0.0", "require ex/a v1.0.0", api.OK}, {"exclude ex/a v1.0.0", "exclude ex/a v2.0.0", api.ErrMajor},
		{"replace ex/a => b", "replace ex/a => b", api.ErrTwice}, {"replace ex/a => b", "replace ex/a => c", api.ErrTwice}, {"replace ex/a => b", "replace ex/a => ./c", api.ErrPath}, {"replace ex/a => b", "replace ex/b => b", api.OK}, {"replace ex/a => ex/b", "replace ex/b => ex/a", api.OK}, {"replace ex/a => b", "replace ex/a/v2 => b", api.OK},
		{"retract v1.0.0", "retract v1.0.0", api.OK}, {"retract [v1.0.0, v1.1.0]", "retract [v1.0.0, v1.1.0]", api.OK},
	} {
		for _, between := range []string{"", "// x\n", "retract (\n)\n\n"} {
			at := 2 + strings.Count(between, "\n")
			lines := "module ex/m\n" + c.first + "\n" + between + c.second + "\n"
			if c.e == api.OK {
				checkRight(t, lines, 2)
				continue
			}
			refused(t, lines+"foo\n", at, c.e)
			verb, rest, _ := strings.Cut(c.second, " ")
			if hasBlocks(verb) {
				refused(t, "module ex/m\n"+c.first+"\n"+between+verb+" (\n"+rest+"\n)\n", at+1, c.e)
			}
		}
	}
	refused(t, "module ex/m\nrequire (\nex/a v1.0.0\nex/b v1.0.0\nex/a v1.1.0\n)\nfoo", 4, api.ErrTwice)
	refused(t, "go 1.1\ngo 1.2\nmodule a\nmodule b\n", 1, api.ErrTwice)
}

// P10.1: the first wrong line counts, whatever comes behind it.
func TestFirstLine(t *testing.T) {
	for verb, l := range wrong() {
		for s, e := range l {
			first := strings.TrimRight(verb+" "+s, " ")
			for _, behind := range []string{"foo", "module /", "go x", "require ex/a v2.0.0", "require (", "require ex/a v1.0.0"} {
				refused(t, "require ex/a v1.0.0\n"+first+"\n"+behind+"\n", 1, e)
			}
		}
	}
}

// P10.1: many statements, in order.
func TestMany(t *testing.T) {
	var s strings.Builder
	want := mani.Mani{Module: "m"}
	s.WriteString("module m\nrequire (\n")
	for i := range 20000 {
		p := "ex/p" + strconv.Itoa(i)
		s.WriteString(p + " v1.0.0\n")
		want.Reqs = append(want.Reqs, req(p, "v1.0.0"))
	}
	s.WriteString(")\n")
	for i := range 2000 {
		p, u := "ex/p"+strconv.Itoa(i%7), "v1.0."+strconv.Itoa(i)
		s.WriteString("exclude " + p + " " + u + "\nretract " + u + "\nreplace ex/q" + strconv.Itoa(i) + " => d\n")
		want.Excludes = append(want.Excludes, req(p, u))
		want.Retracts = append(want.Retracts, span(u, u))
		want.Swaps = append(want.Swaps, mani.Swap{Path: "ex/q" + strconv.Itoa(i), Dir: "d"})
	}
	parsed(t, s.String(), want)
	if from, to, ok := mani.Where(s.String(), "ex/p19999"); !ok || s.String()[from-10:to] != "ex/p19999 v1.0.0" {
		t.Errorf("Where: %d, %d, %v", from, to, ok)
	}
}

// P10.2: manifests as texts.
func TestText(t *testing.T) {
	for _, c := range []struct {
		m    mani.Mani
		want string
	}{
		{mani.Mani{Module: "ex/a"}, "module ex/a\n"},
		{mani.Mani{Module: "ex/a", Go: "1.27"}, "module ex/a\ngo 1.27\n"},
		{mani.Mani{Module: "ex/a", Retracts: []mani.Span{span("v1.0.0", "v1.0.0"), span("v1.0.0", "v1.1.0"), span("v1.0.0+a", "v1.0.0+b"), span("v1.0.0-rc", "v1.0.0")}}, "module ex/a\nretract v1.0.0\nretract [v1.0.0, v1.1.0]\nretract [v1.0.0+a, v1.0.0+b]\nretract [v1.0.0-rc, v1.0.0]\n"},
		{mani.Mani{
			Module: "ex/m/v2", Go: "0.1",
			Reqs:     []api.Req{req("ex/b", "v1.0.0"), req("ex/a/v3", "v3.0.0-rc.1+b")},
			Swaps:    []mani.Swap{{Path: "ex/b", Dir: "c/d"}, {Path: "a", Dir: "v2"}},
			Excludes: []api.Req{req("ex/b", "v1.0.0"), req("ex/b", "v0.9.0")},
			Retracts: []mani.Span{span("v1.0.0", "v1.0.0"), span("v1.0.0", "v1.0.0")},
		}, "module ex/m/v2\ngo 0.1\nrequire ex/b v1.0.0\nrequire ex/a/v3 v3.0.0-rc.1+b\nreplace ex/b => c/d\nreplace a => v2\nexclude ex/b v1.0.0\nexclude ex/b v0.9.0\nretract v1.0.0\nretract v1.0.0\n"},
	} {
		if got, e := mani.Text(c.m); got != c.want || e != api.OK {
			t.Errorf("Text(%v): %q, %d", c.m, got, e)
		}
	}
}

// P10.2: what is no manifest, or would be another one.
func TestTextWrong(t *testing.T) {
	bad := api.Ver{Major: -1}
	one := func(r api.Req) mani.Mani { return mani.Mani{Module: "m", Reqs: []api.Req{r}} }
	out := func(r ...api.Req) mani.Mani { return mani.Mani{Module: "m", Excludes: r} }
	swap := func(l ...mani.Swap) mani.Mani { return mani.Mani{Module: "m", Swaps: l} }
	back := func(low, high api.Ver) mani.Mani {
		return mani.Mani{Module: "m", Retracts: []mani.Span{{Low: low, High: high}}}
	}
	for _, c := range []struct {
		m mani.Mani
		e api.Errno
	}{
		{mani.Mani{}, api.ErrLine}, {mani.Mani{Module: " "}, api.ErrLine}, {mani.Mani{Module: "a b"}, api.ErrLine}, {mani.Mani{Module: "("}, api.ErrLine}, {mani.Mani{Module: "// x"}, api.ErrLine}, {mani.Mani{Module: "/"}, api.ErrPath}, {mani.Mani{Module: "ex/a/v1"}, api.ErrPath}, {mani.Mani{Module: "ä"}, api.ErrWord}, {mani.Mani{Module: "a\x00"}, api.ErrWord}, {mani.Mani{Module: "/", Go: "\xff"}, api.ErrWord}, {mani.Mani{Go: "1.27"}, api.ErrLine},
		{mani.Mani{Module: "a\nmodule b"}, api.ErrTwice}, {mani.Mani{Module: "a\nfoo"}, api.ErrLine}, {mani.Mani{Module: "\n"}, api.ErrLine},
		{mani.Mani{Module: "a "}, api.ErrArg}, {mani.Mani{Module: " a"}, api.ErrArg}, {mani.Mani{Module: "\ta"}, api.ErrArg}, {mani.Mani{Module: "a\n"}, api.ErrArg}, {mani.Mani{Module: "a // x"}, api.ErrArg}, {mani.Mani{Module: "a\n// x"}, api.ErrArg}, {mani.Mani{Module: "a\ngo 1.27"}, api.ErrArg}, {mani.Mani{Module: "a\nrequire b v1.0.0"}, api.ErrArg}, {mani.Mani{Module: "a\nrequire (\n)"}, api.ErrArg},
		{mani.Mani{Module: "a\nrequire (", Reqs: []api.Req{req("b", "v1.0.0")}}, api.ErrLine}, {mani.Mani{Module: "a\ngo 1.27", Go: "1.27"}, api.ErrTwice},
		{mani.Mani{Module: "a", Go: "1"}, api.ErrVer}, {mani.Mani{Module: "a", Go: "1.27 x"}, api.ErrLine}, {mani.Mani{Module: "a", Go: " "}, api.ErrLine}, {mani.Mani{Module: "a", Go: "1.27 "}, api.ErrArg}, {mani.Mani{Module: "a", Go: "1.27\n"}, api.ErrArg}, {mani.Mani{Module: "a", Go: "1.27 // x"}, api.ErrArg}, {mani.Mani{Module: "a", Go: "1.27\nretract v1.0.0"}, api.ErrArg},
		{one(api.Req{}), api.ErrLine}, {one(api.Req{Path: "ex/a", Ver: bad}), api.ErrLine}, {one(api.Req{Path: "ex/a", Ver: api.Ver{Pre: "+"}}), api.ErrLine}, {one(api.Req{Path: "/", Ver: v("v1.0.0")}), api.ErrPath}, {one(api.Req{Path: "ex/a", Ver: v("v2.0.0")}), api.ErrMajor}, {one(api.Req{Path: "(", Ver: bad}), api.ErrLine}, {one(api.Req{Path: "ex/a v1.0.0 //", Ver: v("v1.0.0")}), api.ErrArg}, {one(api.Req{Path: "ex/a v1.0.0", Ver: bad}), api.ErrArg}, {one(api.Req{Path: "(\n)", Ver: bad}), api.ErrArg}, {one(api.Req{Path: "ex/a v1.0.0\nrequire ex/b", Ver: v("v1.1.0")}), api.ErrArg}, {one(api.Req{Path: " ex/a", Ver: v("v1.1.0")}), api.ErrArg}, {one(api.Req{Path: "(\nex/a", Ver: v("v1.1.0")}), api.ErrLine},
		{mani.Mani{Module: "m", Reqs: []api.Req{req("ex/a", "v1.0.0"), req("ex/a", "v1.1.0")}}, api.ErrTwice}, {mani.Mani{Module: "m", Reqs: []api.Req{{Path: "(", Ver: bad}}, Swaps: []mani.Swap{{Path: "a", Dir: "b"}}}, api.ErrLine},
		{out(api.Req{Path: "ex/a"}, api.Req{Path: "ex/a"}), api.ErrTwice}, {out(api.Req{Path: "ex/a", Ver: bad}), api.ErrLine}, {out(api.Req{Path: "ex/a/v2"}), api.ErrMajor}, {out(api.Req{}), api.ErrLine}, {out(api.Req{Path: "ex/a\t"}), api.ErrArg},
		{swap(mani.Swap{}), api.ErrLine}, {swap(mani.Swap{Path: "a"}), api.ErrLine}, {swap(mani.Swap{Dir: "a"}), api.ErrLine}, {swap(mani.Swap{Path: "a", Dir: "./b"}), api.ErrPath}, {swap(mani.Swap{Path: "v2", Dir: "b"}), api.ErrPath}, {swap(mani.Swap{Path: "a", Dir: "b"}, mani.Swap{Path: "a", Dir: "c"}), api.ErrTwice}, {swap(mani.Swap{Path: "a", Dir: "b "}), api.ErrArg}, {swap(mani.Swap{Path: "a => b //", Dir: "c"}), api.ErrArg}, {swap(mani.Swap{Path: "a", Dir: "b\nreplace c => d"}), api.ErrArg},
		{back(bad, bad), api.ErrLine}, {back(bad, v("v1.0.0")), api.ErrLine}, {back(v("v1.0.0"), bad), api.ErrLine}, {back(api.Ver{Minor: -1}, bad), api.ErrLine}, {back(v("v1.1.0"), v("v1.0.0")), api.ErrVer}, {back(v("v1.0.0"), v("v1.0.0-rc")), api.ErrVer},
	} {
		if got, e := mani.Text(c.m); got != "" || e != c.e {
			t.Errorf("Text(%v): %q, %d; want %d", c.m, got, e, c.e)
		}
	}
}

// P10.3: where a requirement's version stands.
func TestWhere(t *testing.T) {
	for p, words := range map[string]string{"ex/a": "require ex/a v1.0.0", "ex/b/v2": "\tex/b/v2 v2.3.4-rc.1", "ex/c": "\tex/c v0.0.0+b.01"} {
		at := strings.Index(whole, words)
		want := at + strings.LastIndex(words, " ") + 1
		if from, to, ok := mani.Where(whole, p); from != want || to != at+len(words) || !ok {
			t.Errorf("Where(%q): %d, %d, %v; want %d, %d", p, from, to, ok, want, at+len(words))
		}
	}
	for _, p := range []string{"", "ex/m", "ex/b", "ex", "ex/", "ex/A", "ex/a ", "ex/c/v2", "v1.0.0", "require", "module", "1.27", "(", "\xff", "ex/a v1.0.0"} {
		if from, to, ok := mani.Where(whole, p); from != 0 || to != 0 || ok {
			t.Errorf("Where(%q): %d, %d, %v", p, from, to, ok)
		}
	}
	for _, c := range []struct {
		s        string
		p        string
		from, to int
	}{
		{"require a v1.0.0\nmodule m", "a", 10, 16}, {"module m\nrequire\ta\tv0.0.0-x+y", "a", 19, 29}, {"module m\n\n\nrequire (\n\n  a  v1.0.0 // v1.0.0\n)", "a", 27, 33}, {"module m\nrequire v a v1.0.0", "a", 0, 0}, {"module m\nreplace a => v1.0.0\nexclude a v1.0.0\n", "a", 0, 0}, {"module m\nexclude a v1.0.0\nrequire a v1.0.0\n", "a", 36, 42}, {"module m\nrequire a v1.0.0\nexclude a v1.1.0\nreplace a => b\n", "a", 19, 25}, {"module m\nexclude (\na v1.0.0\n)\nretract v1.0.0", "a", 0, 0}, {"module m // v1.0.0\nrequire m v1.0.0", "m", 29, 35}, {"module m\n// require a v1.0.0\n", "a", 0, 0}, {"require a v1.0.0", "a", 0, 0}, {"module m\nrequire a v1.0.0\nrequire (", "a", 0, 0}, {"module m\nrequire a v1.0.0\nrequire a v1.1.0", "a", 0, 0}, {"module m\nrequire a v1.0.0\n// ä", "a", 0, 0}, {"", "", 0, 0}, {"module m", "", 0, 0},
	} {
		if from, to, ok := mani.Where(c.s, c.p); from != c.from || to != c.to || ok != (c.to > 0) {
			t.Errorf("Where(%q, %q): %d, %d, %v", c.s, c.p, from, to, ok)
		}
	}
}

// P10.3: of all requirements: the version's word stands there, and the path's ahead of it.
func TestWhereOfAll(t *testing.T) {
	r := rand.New(rand.NewSource(3))
	for range 300 {
		s := spoil(r, randomText(t, r))
		m, _, e := mani.Parse(s)
		if e != api.OK {
			t.Fatalf("Parse(%q): %d", s, e)
		}
		for _, q := range m.Reqs {
			from, to, ok := mani.Where(s, q.Path)
			if !ok || s[from:to] != ver.Text(q.Ver) || !strings.HasSuffix(strings.TrimRight(s[:from], " \t"), q.Path) {
				t.Fatalf("Where(%q, %q): %d, %d, %v", s, q.Path, from, to, ok)
			}
			next := s[:from] + "v" + strconv.Itoa(q.Ver.Major) + ".77.7" + s[to:]
			if again, _, e := mani.Parse(next); e != api.OK || len(again.Reqs) != len(m.Reqs) || same(again, m) {
				t.Fatalf("%q is no manifest with another version: %d", next, e)
			}
		}
	}
}

// spoil puts blanks, remarks and lines into s that say nothing.
func spoil(r *rand.Rand, s string) string {
	var out strings.Builder
	for _, line := range lex.Split(s) {
		out.WriteString([]string{"", "\n", " ", "\t", "// x\n", " \t \n"}[r.Intn(6)])
		out.WriteString(strings.ReplaceAll(line, " ", []string{" ", "\t", "  ", " \t "}[r.Intn(4)]))
		out.WriteString([]string{"", " ", " // require ex/a v1.0.0", "\t//", " \t"}[r.Intn(5)] + "\n")
	}
	return out.String()
}

// randomMani is a manifest that may be.
func randomMani(r *rand.Rand) mani.Mani {
	pick := func() (string, api.Ver) {
		n := r.Intn(4)
		p := "ex/" + string([]byte{byte('a' + r.Intn(6))})
		u := api.Ver{Major: n, Minor: r.Intn(3), Patch: r.Intn(1000000000), Pre: []string{"", "rc.1", "0", "-"}[r.Intn(4)], Build: []string{"", "01", "a-b"}[r.Intn(3)]}
		if n > 1 {
			p += "/v" + strconv.Itoa(n)
		}
		return p, u
	}
	m := mani.Mani{Module: "ex/m", Go: []string{"", "1.27", "0.0"}[r.Intn(3)]}
	for range r.Intn(8) {
		p, u := pick()
		q := api.Req{Path: p, Ver: u}
		s := mani.Swap{Path: p, Dir: []string{"a", "b/c", "ex/a"}[r.Intn(3)]}
		if r.Intn(2) == 0 && !slices.ContainsFunc(m.Reqs, func(o api.Req) bool { return o.Path == p }) {
			m.Reqs = append(m.Reqs, q)
		}
		if r.Intn(2) == 0 && !slices.ContainsFunc(m.Swaps, func(o mani.Swap) bool { return o.Path == p }) {
			m.Swaps = append(m.Swaps, s)
		}
		if r.Intn(2) == 0 && !slices.Contains(m.Excludes, q) {
			m.Excludes = append(m.Excludes, q)
		}
		if _, w := pick(); r.Intn(2) == 0 && ver.Compare(u, w) <= 0 {
			m.Retracts = append(m.Retracts, mani.Span{Low: u, High: w}, mani.Span{Low: u, High: u})
		}
	}
	return m
}

func randomText(t *testing.T, r *rand.Rand) string {
	t.Helper()
	m := randomMani(r)
	s, e := mani.Text(m)
	if e != api.OK {
		t.Fatalf("Text(%v): %d", m, e)
	}
	return s
}

// P10.4: what is told as a text is parsed as it was.
func TestParsedAsItWas(t *testing.T) {
	r := rand.New(rand.NewSource(1))
	for range 1000 {
		m := randomMani(r)
		s, e := mani.Text(m)
		if e != api.OK {
			t.Fatalf("Text(%v): %d", m, e)
		}
		parsed(t, s, m)
		parsed(t, spoil(r, s), m)
		if again, e := mani.Text(m); again != s || e != api.OK {
			t.Fatalf("Text(%v): %q, %d", m, again, e)
		}
	}
}

// P10.4: whatever lines there are, what is parsed is told, and parsed as it was; and no call panics.
func TestAnyLines(t *testing.T) {
	pool := []string{"module ex/m", "go 1.27", "", "// x", ")", "require (", "exclude (", "replace (", "retract (", "foo", "\xff"}
	for verb, l := range right() {
		for _, s := range l {
			pool = append(pool, verb+" "+s, s, s)
		}
	}
	for _, l := range wrong() {
		for s := range l {
			pool = append(pool, s)
		}
	}
	slices.Sort(pool)
	r := rand.New(rand.NewSource(2))
	good := 0
	for range 30000 {
		lines := []string{"module ex/m"}
		for range r.Intn(6) {
			lines = append(lines, pool[r.Intn(len(pool))])
		}
		s := strings.Join(lines, "\n")
		m, n, e := mani.Parse(s)
		if e != api.OK {
			if n > len(lex.Split(s)) || !same(m, mani.Mani{}) {
				t.Fatalf("Parse(%q): %v, %d, %d", s, m, n, e)
			}
			continue
		}
		good++
		text, e := mani.Text(m)
		if e != api.OK {
			t.Fatalf("Text(%v): %d", m, e)
		}
		parsed(t, text, m)
	}
	if good < 1000 {
		t.Errorf("only %d were manifests", good)
	}
}

// P10.3: whether all is the same.
func TestSame(t *testing.T) {
	base := func() mani.Mani {
		return mani.Mani{Module: "m", Go: "1.27", Reqs: []api.Req{req("a", "v1.0.0"), req("b", "v1.0.0")}, Swaps: []mani.Swap{{Path: "a", Dir: "b"}, {Path: "b", Dir: "c"}}, Excludes: []api.Req{req("a", "v1.0.0"), req("b", "v1.0.0")}, Retracts: []mani.Span{span("v1.0.0", "v1.1.0"), span("v1.0.0", "v1.0.0")}}
	}
	if !mani.Same(base(), base()) || !mani.Same(mani.Mani{}, mani.Mani{}) || !mani.Same(mani.Mani{}, mani.Mani{Reqs: []api.Req{}, Swaps: []mani.Swap{}, Excludes: []api.Req{}, Retracts: []mani.Span{}}) {
		t.Error("not the same")
	}
	for i, change := range []func(*mani.Mani){
		func(m *mani.Mani) { m.Module = "n" }, func(m *mani.Mani) { m.Module = "" }, func(m *mani.Mani) { m.Go = "1.28" }, func(m *mani.Mani) { m.Go = "" },
		func(m *mani.Mani) { m.Reqs = nil }, func(m *mani.Mani) { m.Reqs = m.Reqs[:1] }, func(m *mani.Mani) { slices.Reverse(m.Reqs) }, func(m *mani.Mani) { m.Reqs[1].Path = "c" }, func(m *mani.Mani) { m.Reqs[0].Ver.Build = "b" }, func(m *mani.Mani) { m.Reqs[1].Ver.Patch = 1 }, func(m *mani.Mani) { m.Reqs = append(m.Reqs, api.Req{}) },
		func(m *mani.Mani) { m.Swaps = nil }, func(m *mani.Mani) { m.Swaps = m.Swaps[:1] }, func(m *mani.Mani) { slices.Reverse(m.Swaps) }, func(m *mani.Mani) { m.Swaps[0].Path = "c" }, func(m *mani.Mani) { m.Swaps[1].Dir = "" },
		func(m *mani.Mani) { m.Excludes = nil }, func(m *mani.Mani) { m.Excludes = m.Excludes[:1] }, func(m *mani.Mani) { slices.Reverse(m.Excludes) }, func(m *mani.Mani) { m.Excludes[0].Path = "" }, func(m *mani.Mani) { m.Excludes[1].Ver.Pre = "a" }, func(m *mani.Mani) { m.Excludes, m.Reqs = m.Reqs[:1], m.Excludes },
		func(m *mani.Mani) { m.Retracts = nil }, func(m *mani.Mani) { m.Retracts = m.Retracts[:1] }, func(m *mani.Mani) { slices.Reverse(m.Retracts) }, func(m *mani.Mani) { m.Retracts[0].Low.Major = 0 }, func(m *mani.Mani) { m.Retracts[1].High.Build = "b" },
	} {
		m := base()
		change(&m)
		if mani.Same(m, base()) || mani.Same(base(), m) || !mani.Same(m, m) {
			t.Errorf("change %d is of no moment", i)
		}
	}
	bad := mani.Mani{Module: "/\xff", Reqs: []api.Req{{Ver: api.Ver{Major: -1}}}}
	if !mani.Same(bad, bad) || mani.Same(bad, mani.Mani{Module: "/\xff"}) {
		t.Error("of what is no manifest")
	}
}

// R5: what is handed in is not changed, nor what stands behind it in memory; what is told is new.
func TestOwnMemory(t *testing.T) {
	m := randomMani(rand.New(rand.NewSource(9)))
	m.Reqs = append(m.Reqs, req("ex/z", "v1.0.0"))
	room := append(slices.Clone(m.Reqs), req("mark", "v1.0.0"))
	m.Reqs = room[:len(m.Reqs)]
	was := told(m)
	s, _ := mani.Text(m)
	mani.Same(m, m)
	if told(m) != was || room[len(room)-1].Path != "mark" {
		t.Error("Text changed what was handed in")
	}
	first, _, _ := mani.Parse(s)
	clear(first.Reqs)
	_ = append(first.Swaps, mani.Swap{Path: "x"})
	clear(first.Excludes)
	clear(first.Retracts)
	parsed(t, s, m)
}
