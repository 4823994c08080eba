package mpath_test

import (
	"math"
	"strconv"
	"strings"
	"testing"

	"armada/api"
	"armada/files"
	"armada/mpath"
)

// path has what is promised of a module's path: what stands ahead of its major, and that; 0, if it tells none.
type path struct {
	text  string
	base  string
	major int
}

var sixty = strings.Repeat("abcde/", 9) + "abcdef" // 60 bytes

// goodPaths are modules' paths.
func goodPaths() []path {
	var l []path
	for _, s := range []string{
		"a", "ex/a", "ex/a/b", "A", "0", "-", "_", "...", "go.mod", "example.com/x_y/z-1", sixty, strings.Repeat("v", 60),
		"v", "vv", "vv2", "V2", "V", "2", "2v", "v-2", "v2.", "v2.0", "v.2", "v2a", "v2-", "va2", "v_2", "v2v", "v2v3", ".v2", "v0x2", "v1e9",
		"a/v", "a/vv2", "a/V2", "a/2", "a/v2.0", "a/v2a", "a/v-2", "a/.v2", "a/v2v2", "a/v/b", "v/v", "v/2", "v/a", "a/v2a/b", "V2/a", "2/3", "a/V2/b", "vv2/a", "a/2/b", "v2.0/a",
	} {
		l = append(l, path{s, s, 0})
	}
	for _, n := range []int{2, 3, 9, 10, 11, 19, 20, 99, 100, 123456789, 999999998, 999999999} {
		for _, s := range []string{"a", "ex/a", "v", "V2", "v/a", "v2a", "2", "a/v", strings.Repeat("x", 49)} {
			l = append(l, path{s + "/v" + strconv.Itoa(n), s, n})
		}
	}
	return append(l, path{strings.Repeat("x", 57) + "/v2", strings.Repeat("x", 57), 2})
}

// wrongPaths are no modules' paths.
func wrongPaths() []string {
	l := []string{
		// No paths at all.
		"", "/", "//", "/a", "a/", "a//b", ".", "..", "a/..", "./a", "a b", "a\n", "ä", "\xff", "\x00", "a:b", "a/v2/", "/v2", "//v2", "a//v2", "./v2", "../v2", "a/../v2", "a b/v2", "a/v 2", "a/v+2", "a/v\xd9\xa2",
		sixty + "x", strings.Repeat("x", 61), strings.Repeat("x", 58) + "/v2", strings.Repeat("x", 1<<16),
		// A part ahead of the last one tells a major, one that may be or not.
		"v2/a", "v2/v2", "v0/a", "v1/a", "v00/a", "v02/a", "v1000000000/a", "a/v2/b", "a/v2/v3", "a/v2/v2", "a/v1/v2", "a/v0/b", "a/v1/b", "a/v02/b", "a/b/v9/c/d", "v2/a/v3", "v3/b/c", "a/v00000000000000000000/b", "v2/v", "v2/go.mod", "v" + strings.Repeat("9", 50) + "/a",
		// There is no part ahead.
		"v0", "v1", "v2", "v3", "v10", "v02", "v00", "v999999999", "v1000000000", "v" + strings.Repeat("1", 59),
		// What may be no major, or is not told in as few digits as it takes.
		"a/v0", "a/v1", "a/v00", "a/v01", "a/v02", "a/v002", "a/v010", "a/v0999999999", "a/v1000000000", "a/v1000000002", "a/v9999999999", "a/v2147483648", "a/v4294967298", "a/v18446744073709551618", "a/v9223372036854775807", "a/v9223372036854775808", "ex/a/v0", "ex/a/v1", "a/v" + strings.Repeat("9", 57), "a/v" + strings.Repeat("0", 56) + "2",
	}
	for c := range 256 {
		if s := string([]byte{byte(c)}); !strings.Contains("abcdefghijklmnopqrstuvwxyzABCDEFGHIJKLMNOPQRSTUVWXYZ0123456789-_./", s) {
			l = append(l, s, "a"+s, "a"+s+"/v2", "a/v2"+s, "a/v"+s+"2")
		}
	}
	return l
}

// P8.1: what is a module's path.
func TestCheck(t *testing.T) {
	for _, p := range goodPaths() {
		if !mpath.Check(p.text) {
			t.Errorf("%q is none", p.text)
		}
	}
	for _, s := range wrongPaths() {
		if mpath.Check(s) {
			t.Errorf("%q is one", s)
		}
	}
}

// P8.1: the major that a path tells.
func TestMajor(t *testing.T) {
	for _, p := range goodPaths() {
		if base, n, ok := mpath.Major(p.text); base != p.base || n != p.major || !ok {
			t.Errorf("Major(%q): %q, %d, %v", p.text, base, n, ok)
		}
	}
	for _, s := range wrongPaths() {
		if base, n, ok := mpath.Major(s); base != "" || n != 0 || ok {
			t.Errorf("Major(%q): %q, %d, %v", s, base, n, ok)
		}
	}
}

// goodMajors are some that a version may have.
func goodMajors() []int {
	return []int{0, 1, 2, 3, 4, 9, 10, 11, 19, 20, 21, 99, 100, 123456789, 999999998, 999999999}
}

// majors are these, and some that a version may not have.
func majors() []int {
	return append(goodMajors(), 1000000000, 1<<32, 1<<32+2, -1, -2, math.MaxInt, math.MinInt)
}

// P8.2: a version fits the path that tells its major, or none, if it is 0 or 1.
func TestFits(t *testing.T) {
	for _, p := range goodPaths() {
		for _, n := range majors() {
			want := n == p.major && n >= 2 && n <= 999999999 || p.major == 0 && (n == 0 || n == 1)
			for _, v := range []api.Ver{{Major: n}, {Major: n, Minor: 2, Patch: 3}, {Major: n, Minor: api.MaxNum, Patch: api.MaxNum, Pre: "rc.1", Build: "01"}} {
				if mpath.Fits(p.text, v) != want {
					t.Errorf("Fits(%q, %v) is not %v", p.text, v, want)
				}
			}
		}
	}
}

// P8.2: neither a text that is no path fits, nor a version that may not be.
func TestFitsWrong(t *testing.T) {
	for _, s := range wrongPaths() {
		for _, n := range majors() {
			if mpath.Fits(s, api.Ver{Major: n}) {
				t.Errorf("Fits(%q, %d)", s, n)
			}
		}
	}
	for _, n := range []int{0, 1, 2} {
		for _, v := range []api.Ver{{Major: n, Minor: -1}, {Major: n, Patch: -1}, {Major: n, Minor: api.MaxNum + 1}, {Major: n, Patch: api.MaxNum + 1}, {Major: n, Pre: "01"}, {Major: n, Pre: "."}, {Major: n, Build: "a+b"}, {Major: n, Build: strings.Repeat("x", 31)}} {
			if mpath.Fits("ex/a", v) || mpath.Fits("ex/a/v2", v) {
				t.Errorf("%v fits", v)
			}
		}
	}
}

// P8.3: of any texts.
func TestWithin(t *testing.T) {
	for _, c := range []struct {
		p, dir string
		want   bool
	}{
		{"", "", true}, {"a", "", true}, {"a/b", "", true}, {"/", "", true}, {"\xff", "", true}, {sixty + sixty, "", true},
		{"a", "a", true}, {"a/b", "a/b", true}, {"/", "/", true}, {"\x00 ", "\x00 ", true},
		{"a/b", "a", true}, {"a/b/c", "a", true}, {"a/b/c", "a/b", true}, {"a/", "a", true}, {"a//", "a", true}, {"a//", "a/", true}, {"//", "/", true}, {"a b/\n", "a b", true}, {"v2/a", "v2", true},
		{"", "a", false}, {"a", "b", false}, {"a", "a/b", false}, {"a", "a/", false}, {"a/b", "a/", false}, {"ab", "a", false}, {"a-b", "a", false}, {"a.b/c", "a", false}, {"a/bc", "a/b", false}, {"b/a", "a", false}, {"x/a/b", "a", false}, {"A/b", "a", false}, {"a", "aa", false}, {"", "/", false}, {"/a", "/", false}, {"/a", "a", false}, {"a\\b", "a", false}, {"a0b", "a", false},
	} {
		if mpath.Within(c.p, c.dir) != c.want {
			t.Errorf("Within(%q, %q) is not %v", c.p, c.dir, c.want)
		}
	}
}

// P8.3: of any text.
func TestBase(t *testing.T) {
	for s, want := range map[string]string{
		"": "", "a": "", "abc.go": "", "a/b": "a", "a/b/c": "a/b", "a/b/": "a/b", "/": "", "/a": "", "//": "/", "a/": "a", "a//": "a/", "a//b": "a/", "/a/b": "/a", "a b/\xff": "a b", "\n/\x00": "\n", "a\\b": "", "../x": "..", "go.mod": "", "a/go.mod": "a", sixty: sixty[:53], sixty + sixty + "/x": sixty + sixty,
	} {
		if got := mpath.Base(s); got != want {
			t.Errorf("Base(%q): %q", s, got)
		}
	}
}

// P8.4: a path whose last part tells a major is what stands ahead of it, and that.
func TestPutTogether(t *testing.T) {
	for _, p := range goodPaths() {
		base, n, _ := mpath.Major(p.text)
		if n == 0 {
			continue
		}
		if base+"/v"+strconv.Itoa(n) != p.text || mpath.Base(p.text) != base || !mpath.Within(p.text, base) || !mpath.Check(base) || !files.Path(p.text) {
			t.Errorf("%q: %q, %d", p.text, base, n)
		}
	}
}

// P8.4: of the paths that differ by their majors alone a version fits one, and no other.
func TestOneMajor(t *testing.T) {
	paths := []string{"ex/a"}
	for _, n := range goodMajors() {
		paths = append(paths, "ex/a/v"+strconv.Itoa(n))
	}
	for _, n := range goodMajors() {
		many := 0
		for _, p := range paths {
			if mpath.Fits(p, api.Ver{Major: n, Minor: 1}) {
				many++
			}
		}
		if many != 1 {
			t.Errorf("v%d.1.0 fits %d paths", n, many)
		}
	}
}
