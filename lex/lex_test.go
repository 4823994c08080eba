package lex_test

import (
	"slices"
	"strings"
	"testing"

	"armada/api"
	"armada/lex"
)

// words are words, each with its place: text, then place.
func words(of ...any) []lex.Word {
	var l []lex.Word
	for i := 0; i < len(of); i += 2 {
		l = append(l, lex.Word{Text: of[i].(string), At: of[i+1].(int)})
	}
	return l
}

func sameLine(a lex.Line, b lex.Line) bool {
	return a.Note == b.Note && slices.Equal(a.Words, b.Words)
}

func isBlank(c byte) bool { return c == 32 || c == 9 }

func isSign(c byte) bool { return strings.IndexByte("()[],", c) >= 0 }

// noteAt is, by the chapter's words, where the remark of s begins; its end, if there is none.
func noteAt(s string) int {
	for i := range len(s) {
		if strings.HasPrefix(s[i:], "//") && (i == 0 || isBlank(s[i-1]) || isSign(s[i-1])) {
			return i
		}
	}
	return len(s)
}

// plainly is One by the chapter's words, of a line that tells no error: each place is asked whether a word begins there, and how far it goes.
func plainly(s string) lex.Line {
	end := noteAt(s)
	line := lex.Line{Note: s[end:]}
	isRun := func(i int) bool { return i >= 0 && i < end && !isBlank(s[i]) && !isSign(s[i]) }
	for i := range end {
		k := i
		for isRun(k) {
			k++
		}
		if isSign(s[i]) {
			line.Words = append(line.Words, lex.Word{Text: s[i : i+1], At: i})
		} else if isRun(i) && !isRun(i-1) {
			line.Words = append(line.Words, lex.Word{Text: s[i:k], At: i})
		}
	}
	return line
}

// texts calls f with each text of at most that many of the bytes of signs.
func texts(signs string, most int, f func(string)) {
	f("")
	if most == 0 {
		return
	}
	for _, c := range signs {
		texts(signs, most-1, func(s string) { f(string(c) + s) })
	}
}

// P9.1: ordinary lines, and the edges.
func TestOne(t *testing.T) {
	long := strings.Repeat("x", 5000)
	for _, c := range []struct {
		s     string
		words []lex.Word
		note  string
	}{
		{"", nil, ""}, {" ", nil, ""}, {"\t", nil, ""}, {" \t  ", nil, ""},
		{"a", words("a", 0), ""}, {"abc", words("abc", 0), ""}, {" a", words("a", 1), ""}, {"a ", words("a", 0), ""}, {"\ta\t", words("a", 1), ""}, {"a b", words("a", 0, "b", 2), ""}, {"a \t b", words("a", 0, "b", 4), ""}, {"ab  cd ", words("ab", 0, "cd", 4), ""},
		{"require ex/a v1.0.0 // indirect", words("require", 0, "ex/a", 8, "v1.0.0", 13), "// indirect"},
		{"replace a => b/c", words("replace", 0, "a", 8, "=>", 10, "b/c", 13), ""}, {"a=>b", words("a=>b", 0), ""},
		{"(", words("(", 0), ""}, {")", words(")", 0), ""}, {"[", words("[", 0), ""}, {"]", words("]", 0), ""}, {",", words(",", 0), ""}, {"()[],", words("(", 0, ")", 1, "[", 2, "]", 3, ",", 4), ""}, {",,", words(",", 0, ",", 1), ""}, {"( ) ", words("(", 0, ")", 2), ""},
		{"a(b", words("a", 0, "(", 1, "b", 2), ""}, {"(ab)", words("(", 0, "ab", 1, ")", 3), ""}, {"a,b", words("a", 0, ",", 1, "b", 2), ""}, {"[v1.0.0, v1.1.0]", words("[", 0, "v1.0.0", 1, ",", 7, "v1.1.0", 9, "]", 15), ""}, {"a[", words("a", 0, "[", 1), ""}, {"]a", words("]", 0, "a", 1), ""},
		{"{a}<b>", words("{a}<b>", 0), ""}, {"!~\"'`;:.|&", words("!~\"'`;:.|&", 0), ""},
		{"//", nil, "//"}, {"///", nil, "///"}, {"// a ( b", nil, "// a ( b"}, {" //", nil, "//"}, {"\t//x", nil, "//x"}, {"a //", words("a", 0), "//"}, {"a\t//\t", words("a", 0), "//\t"}, {"(//a", words("(", 0), "//a"}, {")//a", words(")", 0), "//a"}, {"[//a", words("[", 0), "//a"}, {"]//a", words("]", 0), "//a"}, {",//a", words(",", 0), "//a"}, {"a,//", words("a", 0, ",", 1), "//"},
		{"// a // b", nil, "// a // b"}, {"a // b // c", words("a", 0), "// b // c"},
		{"a//b", words("a//b", 0), ""}, {"a//", words("a//", 0), ""}, {"a///", words("a///", 0), ""}, {"http://x y", words("http://x", 0, "y", 9), ""}, {"a//b //c", words("a//b", 0), "//c"}, {"a//b(//c", words("a//b", 0, "(", 4), "//c"}, {"a// b", words("a//", 0, "b", 4), ""},
		{"/", words("/", 0), ""}, {" /", words("/", 1), ""}, {"/ /", words("/", 0, "/", 2), ""}, {"/a/", words("/a/", 0), ""}, {"/(/", words("/", 0, "(", 1, "/", 2), ""}, {"/a//b", words("/a//b", 0), ""}, {"(/", words("(", 0, "/", 1), ""},
		{long, words(long, 0), ""}, {long + " " + long, words(long, 0, long, 5001), ""}, {"// " + long, nil, "// " + long},
	} {
		if got, e := lex.One(c.s); e != api.OK || !sameLine(got, lex.Line{Words: c.words, Note: c.note}) {
			t.Errorf("One(%q): %v, %d", c.s, got, e)
		}
	}
}

// P9.1: all short lines, by the chapter's words; P9.3: words stand where they say, and nothing but blanks between them.
func TestOneOfAll(t *testing.T) {
	look := func(s string) {
		got, e := lex.One(s)
		if e != api.OK || !sameLine(got, plainly(s)) {
			t.Fatalf("One(%q): %v, %d", s, got, e)
		}
		at := 0
		for _, w := range got.Words {
			if w.At < at || strings.Trim(s[at:w.At], " \t") != "" || w.Text == "" || !strings.HasPrefix(s[w.At:], w.Text) {
				t.Fatalf("One(%q): %v", s, got)
			}
			at = w.At + len(w.Text)
		}
		if strings.Trim(s[at:len(s)-len(got.Note)], " \t") != "" || !strings.HasSuffix(s, got.Note) {
			t.Fatalf("One(%q): %v", s, got)
		}
	}
	texts(" \t(,a/", 6, look)
	texts(" ()[],/b", 5, look)
}

// P9.1: each byte, in a word, alone, and in a remark.
func TestOneBytes(t *testing.T) {
	for n := range 256 {
		c := string([]byte{byte(n)})
		want := api.OK
		if n < 32 && n != 9 || n > 126 {
			want = api.ErrWord
		}
		for _, s := range []string{c, "a" + c, c + "a", "a" + c + "b", "a b " + c, "// " + c, "a // b" + c + "c", strings.Repeat("a ", 100) + c, c + " // x"} {
			got, e := lex.One(s)
			if e != want || want == api.ErrWord && !sameLine(got, lex.Line{}) || want == api.OK && !sameLine(got, plainly(s)) {
				t.Errorf("One(%q): %v, %d", s, got, e)
			}
		}
	}
	for _, s := range []string{"ä", "a\r", "\r", "\n", "a\nb", "\x00", "\x7f", "\xff", "module ex/a // ü", "a\u2028b"} {
		if got, e := lex.One(s); e != api.ErrWord || !sameLine(got, lex.Line{}) {
			t.Errorf("One(%q): %v, %d", s, got, e)
		}
	}
}

// P9.2: the lines of a text.
func TestSplit(t *testing.T) {
	for _, c := range []struct {
		s    string
		want []string
	}{
		{"", nil}, {"a", []string{"a"}}, {"\n", []string{""}}, {"\n\n", []string{"", ""}}, {"a\n", []string{"a"}}, {"a\n\n", []string{"a", ""}}, {"\na", []string{"", "a"}}, {"a\nb", []string{"a", "b"}}, {"a\nb\n", []string{"a", "b"}}, {"a\n\nb", []string{"a", "", "b"}}, {"a\n ", []string{"a", " "}}, {"\n\n\nx", []string{"", "", "", "x"}},
		{"a\r\nb\r", []string{"a\r", "b\r"}}, {"\x00\n\xff\n\x0b\x0c\x85", []string{"\x00", "\xff", "\x0b\x0c\x85"}}, {"ä\u2028b", []string{"ä\u2028b"}}, {"// a\n", []string{"// a"}},
	} {
		if got := lex.Split(c.s); !slices.Equal(got, c.want) {
			t.Errorf("Split(%q): %q", c.s, got)
		}
	}
	texts("\na ", 8, func(s string) {
		got := lex.Split(s)
		joined := strings.Join(got, "\n")
		if len(got) > 0 && strings.HasSuffix(s, "\n") {
			joined += "\n"
		}
		if joined != s || slices.ContainsFunc(got, func(l string) bool { return strings.Contains(l, "\n") }) || len(got) > 0 && got[len(got)-1] == "" && !strings.HasSuffix(s, "\n") || s == "" && len(got) != 0 {
			t.Fatalf("Split(%q): %q", s, got)
		}
	})
}

// P9.2: One of each line; or the first one's place that tells an error.
func TestLines(t *testing.T) {
	for _, c := range []struct {
		s  string
		at int
		e  api.Errno
	}{
		{"", 0, api.OK}, {"a", 1, api.OK}, {"\n", 1, api.OK}, {"\n\n", 2, api.OK}, {"a b\n(c) // d\n\n//\n", 4, api.OK}, {"a\nb", 2, api.OK}, {"a\nb\n", 2, api.OK}, {"a\n \t", 2, api.OK}, {strings.Repeat("a\n", 1000), 1000, api.OK},
		{"\x00", 0, api.ErrWord}, {"\r\n", 0, api.ErrWord}, {"a\nb\r\nc", 1, api.ErrWord}, {"a\n\xff\n\x00\n", 1, api.ErrWord}, {"a\n\n// ä", 2, api.ErrWord}, {"\n\n\n\x7f\n\n", 3, api.ErrWord}, {"\x1f\na", 0, api.ErrWord}, {strings.Repeat("a\n", 1000) + "\x01", 1000, api.ErrWord},
	} {
		got, at, e := lex.Lines(c.s)
		if at != c.at || e != c.e || e != api.OK && len(got) != 0 {
			t.Errorf("Lines(%q): %v, %d, %d", c.s, got, at, e)
		}
		if e != api.OK {
			continue
		}
		var want []lex.Line
		for _, s := range lex.Split(c.s) {
			want = append(want, plainly(s))
		}
		if !slices.EqualFunc(got, want, sameLine) {
			t.Errorf("Lines(%q): %v", c.s, got)
		}
	}
}

// R5, R6: what is told is memory of its own, and the same again.
func TestOwnMemory(t *testing.T) {
	s := "a (b) // c\nd\n"
	first, _, _ := lex.Lines(s)
	for _, l := range first {
		for i := range l.Words {
			l.Words[i] = lex.Word{Text: "x", At: 9}
		}
		_ = append(l.Words, lex.Word{})
	}
	clear(lex.Split(s))
	if again, n, e := lex.Lines(s); n != 2 || e != api.OK || !sameLine(again[0], plainly("a (b) // c")) || !sameLine(again[1], plainly("d")) {
		t.Errorf("%v, %d, %d", again, n, e)
	}
}
