package ver_test

import (
	"math"
	"math/rand"
	"slices"
	"strconv"
	"strings"
	"testing"

	"armada/api"
	"armada/ver"
)

const top = api.MaxNum

// v is a version of three numbers, and its Pre.
func v(major, minor, patch int, pre string) api.Ver {
	return api.Ver{Major: major, Minor: minor, Patch: patch, Pre: pre}
}

// built is a version that has a Build.
func built(of api.Ver, build string) api.Ver {
	of.Build = build
	return of
}

// digits30 is a number of 30 digits.
const digits30 = "123456789012345678901234567890"

// goodPre are those that a version may have as its Pre, and as its Build.
func goodPre() []string {
	return []string{
		"a", "z", "A", "Z", "0", "9", "-", "--", "-0", "0-", "-01", "10", "100", "1.0.0", "0.0.0", "0a", "00a", "01a", "a00", "-.-", "a.b.c", "rc.1", "rc1", "RC-1.x", "1-2", "0.a.0",
		digits30, strings.Repeat("x", 30), strings.Repeat("a.", 14) + "ab", "0" + strings.Repeat("x", 29),
	}
}

// onlyBuild are those that only a Build may be.
func onlyBuild() []string {
	return []string{"00", "01", "007", "a.01", "01.a", "a.00.b", "0.00", "0" + digits30[:29], strings.Repeat("0", 30)}
}

// wrongTails are neither a Pre nor a Build.
func wrongTails() []string {
	l := []string{
		".", "..", ".a", "a.", "a..b", ".0", "0.", "a b", " ", "a+", "+", "a+b", "a_b", "a/b", "a\n", "\x00", "ä", "\xff", "a.\xff", "a.b!", "1,2",
		strings.Repeat("x", 31), digits30 + "1", strings.Repeat("a.", 15) + "a", strings.Repeat("x", 300), strings.Repeat("x", 256+3),
	}
	for c := range 256 {
		if s := string([]byte{byte(c)}); !strings.Contains("abcdefghijklmnopqrstuvwxyzABCDEFGHIJKLMNOPQRSTUVWXYZ0123456789-.", s) {
			l = append(l, s, "a"+s, s+"a", "1"+s+"2", "a."+s)
		}
	}
	return l
}

// wrongVers are versions that may not be.
func wrongVers() []api.Ver {
	var l []api.Ver
	for _, n := range []int{-1, -2, top + 1, top + 2, 1 << 30, 1 << 32, 1<<32 + 1, math.MaxInt, math.MinInt, math.MinInt32} {
		l = append(l, v(n, 0, 0, ""), v(0, n, 0, ""), v(0, 0, n, ""), v(1, 2, n, "rc"), v(n, n, n, ""))
	}
	for _, s := range wrongTails() {
		l = append(l, v(1, 2, 3, s), built(v(1, 2, 3, ""), s), built(v(1, 2, 3, s), "b"), built(v(1, 2, 3, "a"), s))
	}
	for _, s := range onlyBuild() {
		l = append(l, v(1, 2, 3, s), built(v(0, 0, 0, s), s))
	}
	return l
}

// numbers are some that a version may have.
func numbers() []int { return []int{0, 1, 2, 9, 10, 12, 99, 100, 123456789, top - 1, top} }

// ladder has versions that rise, each ahead of the next.
func ladder() []api.Ver {
	l := []api.Ver{v(0, 0, 0, "0"), v(0, 0, 0, "a"), v(0, 0, 0, ""), v(0, 0, 1, "0"), v(0, 0, 1, ""), v(0, 0, 2, ""), v(0, 0, 10, ""), v(0, 0, top, ""), v(0, 1, 0, "z"), v(0, 1, 0, ""), v(0, 2, 0, ""), v(0, 10, 0, ""), v(0, top, top, "")}
	// The numbers rise as numbers, ahead of all that is none; that rises byte by byte; and what goes on stands behind.
	for _, pre := range []string{
		"0", "0.0", "0.0.0", "0.1", "0.-", "1", "1.0", "1.2", "1.10", "1.10.0", "1.a", "1.a.0", "2", "2.0", "9", "10", "11", "99", "100", "999999999", "1000000000", "2147483648", "4294967296", "9223372036854775807", "9223372036854775808", "18446744073709551615", "18446744073709551616", "99999999999999999999", "100000000000000000000", digits30, "123456789012345678901234567891", strings.Repeat("9", 30),
		"-", "--", "-0", "-1", "-a", "0-", "00a", "0a", "10-", "10a", "1a", "2a", "9a", "A", "A.0", "A.A", "A-", "AA", "Z", "a", "a.0", "a.1", "a.1.0", "a.2", "a.10", "a.-", "a.a", "a.a.a", "a.b", "a-", "a-b", "a0", "aa", "alpha", "alpha.1", "alpha.beta", "beta", "beta.2", "beta.11", "rc", "rc.1", "rc.1.1", "rc.2", "rc.10", "rc-1", "rc1", "rc10", "rc2", "z",
		"",
	} {
		l = append(l, v(1, 0, 0, pre))
	}
	return append(l, v(1, 0, 1, "0"), v(1, 0, 1, ""), v(1, 1, 0, "0"), v(1, 1, 0, ""), v(1, top, 0, ""), v(1, top, top, "a"), v(1, top, top, ""), v(2, 0, 0, "0"), v(2, 0, 0, ""), v(10, 0, 0, ""), v(top, 0, 0, "a"), v(top, 0, 0, ""), v(top, top, top, "a"), v(top, top, top, ""))
}

// The chapter's words: which versions may be.
func TestCheck(t *testing.T) {
	for _, n := range numbers() {
		for _, g := range []api.Ver{v(n, 0, 0, ""), v(0, n, 0, ""), v(0, 0, n, ""), v(n, n, n, "a")} {
			if !ver.Check(g) {
				t.Errorf("%v may not be", g)
			}
		}
	}
	for _, s := range goodPre() {
		if !ver.Check(v(1, 2, 3, s)) || !ver.Check(built(v(1, 2, 3, ""), s)) || !ver.Check(built(v(1, 2, 3, s), s)) {
			t.Errorf("%q may not be", s)
		}
	}
	for _, s := range onlyBuild() {
		if ver.Check(v(1, 2, 3, s)) || !ver.Check(built(v(1, 2, 3, ""), s)) || !ver.Check(built(v(1, 2, 3, "a"), s)) {
			t.Errorf("%q: as a Pre, or not as a Build", s)
		}
	}
	for _, w := range wrongVers() {
		if ver.Check(w) {
			t.Errorf("%v may be", w)
		}
	}
}

// P7.1: a version as a text, and read again.
func TestText(t *testing.T) {
	for _, c := range []struct {
		v    api.Ver
		want string
	}{
		{api.Ver{}, "v0.0.0"}, {v(1, 2, 3, ""), "v1.2.3"}, {v(0, 0, 10, ""), "v0.0.10"}, {v(100, 20, 0, ""), "v100.20.0"}, {v(top, top, top, ""), "v999999999.999999999.999999999"},
		{v(1, 2, 3, "rc.1"), "v1.2.3-rc.1"}, {v(1, 2, 3, "-"), "v1.2.3--"}, {v(1, 2, 3, "0"), "v1.2.3-0"}, {v(1, 2, 3, "a-b.-"), "v1.2.3-a-b.-"},
		{built(v(1, 2, 3, ""), "b.01"), "v1.2.3+b.01"}, {built(v(1, 2, 3, ""), "-"), "v1.2.3+-"}, {built(v(1, 2, 3, ""), "a-b"), "v1.2.3+a-b"}, {built(v(1, 2, 3, "rc-1"), "x-y.0"), "v1.2.3-rc-1+x-y.0"},
		{built(v(top, top, top, digits30), digits30), "v999999999.999999999.999999999-" + digits30 + "+" + digits30},
	} {
		if got := ver.Text(c.v); got != c.want {
			t.Errorf("Text(%v): %q", c.v, got)
		}
		if got, ok := ver.Parse(c.want); got != c.v || !ok {
			t.Errorf("Parse(%q): %v, %v", c.want, got, ok)
		}
	}
	for _, w := range wrongVers() {
		if got := ver.Text(w); got != "" {
			t.Errorf("Text(%v): %q", w, got)
		}
	}
}

// P7.1: texts of no version.
func TestParseWrong(t *testing.T) {
	l := []string{
		"", "v", "1.2.3", "V1.2.3", "vv1.2.3", " v1.2.3", "v 1.2.3", "v1.2.3 ", "v1.2.3\n", "\nv1.2.3", "v1", "v1.2", "v1.2.", "v1..3", "v.2.3", "v1.2.3.", "v1.2.3.4", "v1.2.3.4-a", "v..", "v...", "v1,2,3", "v1.2,3", "1", "v-1.2.3", "v1.-2.3", "v1.2.-3", "v+1.2.3", "v1.+2.3", "v1.2.+3", "v-0.0.0",
		"v01.2.3", "v1.02.3", "v1.2.03", "v00.0.0", "v0.00.0", "v0.0.00", "v0.0.00-a", "v1_0.2.3", "v0x1.2.3", "v1e1.2.3", "v1.2.3a", "va.b.c", "v1.2.x", "v\xd9\xa1.2.3",
		"v1000000000.0.0", "v0.1000000000.0", "v0.0.1000000000", "v0.0.4294967296", "v0.0.4294967297", "v18446744073709551616.0.0", "v0.0.99999999999999999999999999", "v0.0.0999999999",
		"v1.2.3-", "v1.2.3+", "v1.2.3-+", "v1.2.3-+b", "v1.2.3-a+", "v1.2.3+b+", "v1.2.3+b+c", "v1.2.3++b", "v1.2.3-a+b+c", "v1.2.3.-a", "v1.2-a", "v1-a", "v1.2+b", "v-a", "v+b", "-a", "+b", "-", "+", "v1.2.3_a", "v1.2.3~a", "v1.2-a.3", "v1.2+b.3", "v1-2.3", "v1+2.3",
	}
	for _, s := range wrongTails() {
		if !strings.Contains(s, "+") {
			l = append(l, "v1.2.3-"+s, "v1.2.3-"+s+"+b")
		}
		l = append(l, "v1.2.3+"+s, "v1.2.3-a+"+s)
	}
	for _, s := range onlyBuild() {
		l = append(l, "v1.2.3-"+s, "v1.2.3-"+s+"+"+s)
	}
	l = append(l, strings.Repeat("v1.2.3", 1000), "v"+strings.Repeat("1", 5000)+".0.0", "v1.2.3-"+strings.Repeat("a.", 5000)+"a", strings.Repeat(".", 5000), strings.Repeat("-", 5000), strings.Repeat("+", 5000))
	for _, s := range l {
		if got, ok := ver.Parse(s); ok || got != (api.Ver{}) {
			t.Errorf("Parse(%q): %v, %v", s, got, ok)
		}
	}
}

// P7.1: a text that has one byte changed, gone, or more, is none, or that of the version that is told.
func TestParseNear(t *testing.T) {
	for _, s := range []string{"v1.2.3", "v10.0.20", "v1.2.3-rc.1", "v1.2.3+b.01", "v0.0.0-0.a-+-.0"} {
		for i := range len(s) + 1 {
			for _, c := range "v0129aZ.-+ _\x00\xff" {
				near := []string{s[:i] + string(c) + s[i:]}
				if i < len(s) {
					near = append(near, s[:i]+s[i+1:], s[:i]+string(c)+s[i+1:])
				}
				for _, n := range near {
					got, ok := ver.Parse(n)
					if ok && ver.Text(got) != n || !ok && got != (api.Ver{}) {
						t.Errorf("Parse(%q): %v, %v", n, got, ok)
					}
				}
			}
		}
	}
}

// P7.2: one order of all, but for Build.
func TestCompare(t *testing.T) {
	l := ladder()
	for i, a := range l {
		for k, b := range l {
			want := 0
			if i < k {
				want = -1
			} else if i > k {
				want = 1
			}
			if got := ver.Compare(a, b); got != want {
				t.Fatalf("Compare(%v, %v): %d", a, b, got)
			}
			if ver.Compare(built(a, "z.01"), b) != want || ver.Compare(a, built(b, "0")) != want || ver.Compare(built(a, "1"), built(b, "2")) != want {
				t.Errorf("%v, %v: Build is of moment", a, b)
			}
		}
	}
}

// P7.2: of versions that may not be.
func TestCompareWrong(t *testing.T) {
	wrong := wrongVers()
	for _, w := range wrong {
		for _, g := range []api.Ver{{}, v(1, 2, 3, ""), v(1, 2, 4, ""), v(1, 2, 3, "a"), v(top, top, top, ""), built(v(1, 2, 3, "b"), "b"), wrong[0], wrong[len(wrong)-1]} {
			if ver.Compare(w, g) != 0 || ver.Compare(g, w) != 0 {
				t.Fatalf("Compare of %v and %v", w, g)
			}
		}
	}
}

// P7.3: ordinary bumps, and the edges.
func TestBump(t *testing.T) {
	for _, c := range []struct {
		v                   api.Ver
		patch, minor, major string
	}{
		{v(1, 2, 3, "rc.1"), "v1.2.3", "v1.3.0", "v2.0.0"},
		{v(1, 2, 3, ""), "v1.2.4", "v1.3.0", "v2.0.0"},
		{built(v(1, 2, 3, ""), "b"), "v1.2.4", "v1.3.0", "v2.0.0"},
		{built(v(1, 2, 3, "rc"), "b"), "v1.2.3", "v1.3.0", "v2.0.0"},
		{api.Ver{}, "v0.0.1", "v0.1.0", "v1.0.0"},
		{v(0, 0, 0, "a"), "v0.0.0", "v0.0.0", "v0.0.0"},
		{v(1, 2, 0, "a"), "v1.2.0", "v1.2.0", "v2.0.0"},
		{v(1, 2, 0, ""), "v1.2.1", "v1.3.0", "v2.0.0"},
		{v(1, 0, 0, "a"), "v1.0.0", "v1.0.0", "v1.0.0"},
		{built(v(2, 0, 0, "a.0"), "01"), "v2.0.0", "v2.0.0", "v2.0.0"},
		{v(1, 0, 0, ""), "v1.0.1", "v1.1.0", "v2.0.0"},
		{v(1, 0, 3, "a"), "v1.0.3", "v1.1.0", "v2.0.0"},
		{v(9, 9, 9, ""), "v9.9.10", "v9.10.0", "v10.0.0"},
		{v(1, 2, top-1, ""), "v1.2.999999999", "v1.3.0", "v2.0.0"},
		{v(1, 2, top, "a"), "v1.2.999999999", "v1.3.0", "v2.0.0"},
		// What can't grow is left to the number above it.
		{v(1, 2, top, ""), "v1.3.0", "v1.3.0", "v2.0.0"},
		{v(1, top, 3, ""), "v1.999999999.4", "v2.0.0", "v2.0.0"},
		{v(1, top, 3, "a"), "v1.999999999.3", "v2.0.0", "v2.0.0"},
		{v(1, top, 0, "a"), "v1.999999999.0", "v1.999999999.0", "v2.0.0"},
		{v(1, top, 0, ""), "v1.999999999.1", "v2.0.0", "v2.0.0"},
		{v(1, top, top, ""), "v2.0.0", "v2.0.0", "v2.0.0"},
		{v(1, top, top, "a"), "v1.999999999.999999999", "v2.0.0", "v2.0.0"},
		{v(top-1, top, top, ""), "v999999999.0.0", "v999999999.0.0", "v999999999.0.0"},
		// And where none is above it, there is none.
		{v(top, 0, 0, "a"), "v999999999.0.0", "v999999999.0.0", "v999999999.0.0"},
		{v(top, 0, 0, ""), "v999999999.0.1", "v999999999.1.0", ""},
		{v(top, 0, 1, "a"), "v999999999.0.1", "v999999999.1.0", ""},
		{v(top, 0, top, ""), "v999999999.1.0", "v999999999.1.0", ""},
		{v(top, top, 0, "a"), "v999999999.999999999.0", "v999999999.999999999.0", ""},
		{v(top, top, 0, ""), "v999999999.999999999.1", "", ""},
		{v(top, top, 1, "a"), "v999999999.999999999.1", "", ""},
		{v(top, top, top, "a"), "v999999999.999999999.999999999", "", ""},
		{built(v(top, top, top, ""), "b"), "", "", ""},
		{v(top, top, top, ""), "", "", ""},
	} {
		for level, want := range map[int]string{ver.Patch: c.patch, ver.Minor: c.minor, ver.Major: c.major} {
			wantErr := api.OK
			if want == "" {
				wantErr = api.ErrOver
			}
			wantVer, _ := ver.Parse(want)
			if got, e := ver.Bump(c.v, level); got != wantVer || e != wantErr {
				t.Errorf("Bump(%v, %d): %v, %d; want %q", c.v, level, got, e, want)
			}
		}
	}
}

// P7.3: the levels' numbers, and what is no level, or may not be.
func TestBumpWrong(t *testing.T) {
	if ver.Patch != 1 || ver.Minor != 2 || ver.Major != 3 {
		t.Error("the levels are not 1 to 3")
	}
	for _, level := range []int{0, 4, -1, 5, 1 << 32, 1<<32 + 1, math.MaxInt, math.MinInt} {
		for _, g := range []api.Ver{{}, v(1, 2, 3, ""), v(1, 0, 0, "a"), v(top, top, top, "")} {
			if got, e := ver.Bump(g, level); got != (api.Ver{}) || e != api.ErrArg {
				t.Errorf("Bump(%v, %d): %v, %d", g, level, got, e)
			}
		}
	}
	for _, w := range wrongVers() {
		for level := range 5 {
			if got, e := ver.Bump(w, level); got != (api.Ver{}) || e != api.ErrArg {
				t.Errorf("Bump(%v, %d): %v, %d", w, level, got, e)
			}
		}
	}
}

// least goes through all versions that could be the answer: of one that is above, each number is 0, or as it was, or one more.
func least(of api.Ver, level int) (api.Ver, bool) {
	best, found := api.Ver{}, false
	for _, major := range []int{0, of.Major, of.Major + 1} {
		for _, minor := range []int{0, of.Minor, of.Minor + 1} {
			for _, patch := range []int{0, of.Patch, of.Patch + 1} {
				c := v(major, minor, patch, "")
				if level > ver.Patch && patch != 0 || level > ver.Minor && minor != 0 || ver.Compare(c, of) < 1 {
					continue
				}
				if !found || ver.Compare(c, best) < 0 {
					best, found = c, true
				}
			}
		}
	}
	return best, found
}

// P7.3, P7.5: against the least one of all that are above; and a greater level bumps no less.
func TestBumpMany(t *testing.T) {
	l := ladder()
	for _, major := range []int{0, 1, top - 1, top} {
		for _, minor := range []int{0, 1, top - 1, top} {
			for _, patch := range []int{0, 1, top - 1, top} {
				l = append(l, v(major, minor, patch, ""), v(major, minor, patch, "0"), built(v(major, minor, patch, "a"), "b"), built(v(major, minor, patch, ""), "b"))
			}
		}
	}
	for _, of := range l {
		before, beforeErr := api.Ver{}, api.OK
		for level := ver.Patch; level <= ver.Major; level++ {
			got, e := ver.Bump(of, level)
			want, ok := least(of, level)
			if got != want || ok != (e == api.OK) || !ok && e != api.ErrOver {
				t.Errorf("Bump(%v, %d): %v, %d; want %v", of, level, got, e, want)
			}
			if e == api.OK && (beforeErr != api.OK || ver.Compare(got, of) != 1 || level > ver.Patch && ver.Compare(got, before) < 0) {
				t.Errorf("Bump(%v, %d): %v is too low", of, level, got)
			}
			before, beforeErr = got, e
		}
	}
}

// P7.4: the greatest one, and the first one of those that are the same.
func TestMax(t *testing.T) {
	wrong := wrongVers()
	a, b, c := v(1, 2, 3, "a"), v(1, 2, 3, ""), v(1, 10, 0, "")
	for _, x := range []struct {
		what string
		l    []api.Ver
		want api.Ver
		is   bool
	}{
		{"none", nil, api.Ver{}, false},
		{"none, not nil", []api.Ver{}, api.Ver{}, false},
		{"none may be", wrong, api.Ver{}, false},
		{"the zero one", []api.Ver{{}}, api.Ver{}, true},
		{"the lowest one", []api.Ver{v(0, 0, 0, "0")}, v(0, 0, 0, "0"), true},
		{"one", []api.Ver{a}, a, true},
		{"rising", []api.Ver{a, b, c}, c, true},
		{"falling", []api.Ver{c, b, a}, c, true},
		{"amid", []api.Ver{a, c, b}, c, true},
		{"a Pre stands ahead", []api.Ver{b, a}, b, true},
		{"the first of the same", []api.Ver{a, built(b, "1"), built(b, "2"), b}, built(b, "1"), true},
		{"the first of the same, without Build", []api.Ver{b, built(b, "1"), a}, b, true},
		{"among wrong ones", append(append(slices.Clone(wrong), a, built(c, "x"), b), wrong...), built(c, "x"), true},
		{"a wrong one that were greater", []api.Ver{v(top+1, 0, 0, ""), a, v(2, 0, 0, "01")}, a, true},
	} {
		was := slices.Clone(x.l)
		if got, is := ver.Max(x.l); got != x.want || is != x.is {
			t.Errorf("%s: %v, %v", x.what, got, is)
		}
		if !slices.Equal(x.l, was) {
			t.Errorf("%s: what was handed in was changed", x.what)
		}
	}
}

// P7.4: of a ladder, however it is shuffled.
func TestMaxMany(t *testing.T) {
	r := rand.New(rand.NewSource(7))
	rungs := ladder()
	for range 200 {
		n := 1 + r.Intn(len(rungs))
		l := slices.Clone(rungs[:n])
		r.Shuffle(n, func(i, k int) { l[i], l[k] = l[k], l[i] })
		if got, is := ver.Max(l); got != rungs[n-1] || !is {
			t.Fatalf("Max: %v, %v; want %v", got, is, rungs[n-1])
		}
	}
}

// P7.5: versions are parsed as they were.
func TestParsedAsTheyWere(t *testing.T) {
	for _, of := range ladder() {
		for _, build := range append(append(goodPre(), onlyBuild()...), "") {
			b := built(of, build)
			if got, ok := ver.Parse(ver.Text(b)); got != b || !ok {
				t.Errorf("%v: %v, %v", b, got, ok)
			}
		}
	}
	for _, n := range numbers() {
		for _, of := range []api.Ver{v(n, 0, 0, ""), v(0, n, 0, ""), v(0, 0, n, "")} {
			if got, ok := ver.Parse(ver.Text(of)); got != of || !ok || !strings.Contains(ver.Text(of), strconv.Itoa(n)) {
				t.Errorf("%v: %v, %v", of, got, ok)
			}
		}
	}
}
