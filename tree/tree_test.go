package tree_test

import (
	"crypto/sha256"
	"encoding/base64"
	"encoding/hex"
	"maps"
	"math/rand"
	"slices"
	"strconv"
	"strings"
	"testing"

	"armada/api"
	"armada/files"
	"armada/tree"
)

// of is files of these paths, in their order, each of bytes of its own.
func of(paths ...string) []api.File {
	var l []api.File
	for _, p := range slices.Sorted(slices.Values(paths)) {
		l = append(l, api.File{Path: p, Data: "data of " + p})
	}
	return l
}

// fleet is files of modules in modules, beside one another, and of none.
func fleet() []api.File {
	return of("a/go.mod", "a/x.go", "a/in/y.go", "a/b/go.mod", "a/b/x.go", "a/b/c/d/z.go", "a-b/go.mod", "a-b/x.go", "ab/x.go", "a", "e/f/go.mod", "e/x.go", tree.Ledger, tree.Intent, "a/ledger.txt", "a/.intent", "ledger.txt.go", "x.intent")
}

// wrongLists are files that may not be, though there were modules.
func wrongLists() [][]api.File {
	var many []string
	for i := range api.MaxFiles {
		many = append(many, "a/f"+strconv.Itoa(i))
	}
	return [][]api.File{
		of(append(many, "a/go.mod")...),
		{{Path: "b/go.mod"}, {Path: "a/go.mod"}},
		{{Path: "a/go.mod"}, {Path: "a/go.mod"}},
		{{Path: "a/go.mod"}, {Path: "a/x", Data: strings.Repeat("x", api.MaxBytes+1)}},
		{{Path: ""}, {Path: "a/go.mod"}},
		{{Path: "/go.mod"}, {Path: "a/go.mod"}},
		{{Path: "../go.mod"}, {Path: "a/go.mod"}},
		{{Path: "a/go.mod"}, {Path: "b//go.mod"}},
		{{Path: "a/go.mod"}, {Path: "b/" + strings.Repeat("x", api.MaxPath)}},
	}
}

// P14.1: the directories of modules, and no others.
func TestDirs(t *testing.T) {
	for _, c := range []struct {
		l    []api.File
		want []string
	}{
		{nil, nil},
		{[]api.File{}, nil},
		{of("a", "a/x.go", tree.Ledger, tree.Intent), nil},
		{of("go.mod"), []string{""}},
		{of("go.mod", "a/go.mod"), []string{"", "a"}},
		{of("a/go.mod", "a-b/go.mod", "a.b/go.mod", "a/b/go.mod", "ab/go.mod", "A/go.mod"), []string{"A", "a", "a-b", "a.b", "a/b", "ab"}},
		{of("z/go.mod", "go.mod", "b/go.mod", ".a/go.mod"), []string{"", ".a", "b", "z"}},
		{of("xgo.mod", "go.modx", "go.mo", "Go.mod", "GO.MOD", "a/xgo.mod", "a/go.mod.go", "a/go.mod/x", "a-go.mod", "b/.go.mod", "go.mod.a/x", "mod", "b/mod"), nil},
		{of("go.mod/go.mod"), []string{"go.mod"}},
		{of("go.mod", "go.mod/go.mod", "go.mod/go.mod/x"), []string{"", "go.mod"}},
		{of("ledger.txt/go.mod", ".intent/go.mod"), []string{".intent", "ledger.txt"}},
		{fleet(), []string{"a", "a-b", "a/b", "e/f"}},
	} {
		if got := tree.Dirs(c.l); !slices.Equal(got, c.want) {
			t.Errorf("Dirs(%v): %q, want %q", c.l, got, c.want)
		}
	}
}

// P14.1: as many files as there may be.
func TestMostFiles(t *testing.T) {
	var paths, want []string
	for i := range api.MaxFiles {
		dir := "d" + strconv.Itoa(i)
		paths, want = append(paths, dir+"/go.mod"), append(want, dir)
	}
	slices.Sort(want)
	l := of(paths...)
	if got := tree.Dirs(l); !slices.Equal(got, want) {
		t.Errorf("%q", got)
	}
	for _, dir := range want {
		if got, ok := tree.Hash(l, dir); got != hash(l, dir) || !ok {
			t.Errorf("Hash of %q: %q, %v", dir, got, ok)
		}
	}
	long := strings.Repeat("abcde/", 8) + "abcde" // with its manifest behind it 60 bytes
	l = []api.File{{Path: long + "/go.mod", Data: strings.Repeat("x", api.MaxBytes)}}
	if got := tree.Dirs(l); !slices.Equal(got, []string{long}) {
		t.Errorf("%q", got)
	}
	if got, ok := tree.Hash(l, long); got != told("go.mod", l[0].Data) || !ok {
		t.Errorf("%q, %v", got, ok)
	}
}

// P14.1: the longest directory in which a path lies; of any path, be there such a file, or not.
func TestOwner(t *testing.T) {
	for path, want := range map[string]string{
		"a": "a", "a/go.mod": "a", "a/x.go": "a", "a/in/y.go": "a", "a/none": "a", "a/": "a", "a//b": "a", "a/b": "a/b", "a/b/go.mod": "a/b", "a/b/x.go": "a/b", "a/b/c/d/z.go": "a/b", "a/bc": "a", "a/b-c/x": "a", "a/b.go": "a",
		"a-b": "a-b", "a-b/x.go": "a-b", "e/f": "e/f", "e/f/x": "e/f", "a/ledger.txt": "a", "a/.intent": "a", "a/b/ledger.txt": "a/b", "a/../x": "a", "a/\xff": "a", "e/f/g/h/go.mod": "e/f",
	} {
		if got, ok := tree.Owner(fleet(), path); got != want || !ok {
			t.Errorf("Owner of %q: %q, %v, want %q", path, got, ok, want)
		}
	}
	for _, path := range []string{"", "/", "/a", "A", "A/x", "ab", "ab/x.go", "a.b", "a-", "a-bc", "a-b.go", "e", "e/x.go", "e/fg", "x", "go.mod", "b/x.go", "f/x", tree.Ledger, tree.Intent, "ledger.txt/x", "./a/x", "../a"} {
		if got, ok := tree.Owner(fleet(), path); got != "" || ok {
			t.Errorf("Owner of %q: %q, %v", path, got, ok)
		}
	}
	if got, ok := tree.Owner(nil, "a"); got != "" || ok {
		t.Errorf("Owner of no files: %q, %v", got, ok)
	}
}

// P14.1: all paths lie in the empty directory; but the ledger, and the intent, belong to nobody.
func TestOwnerAtTheRoot(t *testing.T) {
	l := append(fleet(), of("go.mod")...)
	slices.SortFunc(l, func(a, b api.File) int { return strings.Compare(a.Path, b.Path) })
	for path, want := range map[string]string{"": "", "go.mod": "", "x": "", "ab/x.go": "", "e/x.go": "", "/": "", "/a": "", "\xff": "", "ledger.txt.go": "", "ledger.txt/x": "", ".intent/x": "", "Ledger.txt": "", "/ledger.txt": "", "ledger.txt/": "", "a/x.go": "a", "a": "a", "a/b/x.go": "a/b", "e/f/x": "e/f"} {
		if got, ok := tree.Owner(l, path); got != want || !ok {
			t.Errorf("Owner of %q: %q, %v, want %q", path, got, ok, want)
		}
	}
	for _, path := range []string{tree.Ledger, tree.Intent} {
		if got, ok := tree.Owner(l, path); got != "" || ok {
			t.Errorf("Owner of %q: %q, %v", path, got, ok)
		}
	}
	l = of("ledger.txt/go.mod", ".intent/go.mod", ".intent/x")
	for path, want := range map[string]string{"ledger.txt/x": "ledger.txt", "ledger.txt/go.mod": "ledger.txt", ".intent/x": ".intent"} {
		if got, ok := tree.Owner(l, path); got != want || !ok {
			t.Errorf("Owner of %q: %q, %v, want %q", path, got, ok, want)
		}
	}
	for _, path := range []string{"ledger.txt", ".intent"} {
		if got, ok := tree.Owner(l, path); got != "" || ok {
			t.Errorf("Owner of %q, that is a module's directory too: %q, %v", path, got, ok)
		}
	}
}

// P14.1: the files whose owner a directory is, with their bytes, in order.
func TestOwned(t *testing.T) {
	l := fleet()
	for dir, want := range map[string][]string{
		"a": {"a", "a/.intent", "a/go.mod", "a/in/y.go", "a/ledger.txt", "a/x.go"}, "a/b": {"a/b/c/d/z.go", "a/b/go.mod", "a/b/x.go"}, "a-b": {"a-b/go.mod", "a-b/x.go"}, "e/f": {"e/f/go.mod"},
		"": nil, "e": nil, "ab": nil, "a/": nil, "/a": nil, "a/in": nil, "none": nil, "A": nil, "a/go.mod": nil, tree.Ledger: nil,
	} {
		if got := tree.Owned(l, dir); !slices.Equal(got, of(want...)) {
			t.Errorf("Owned by %q: %v", dir, got)
		}
	}
	l = of("go.mod", "x.go", "b/y.go", "a/go.mod", "a/z.go", tree.Ledger, tree.Intent)
	if got := tree.Owned(l, ""); !slices.Equal(got, of("go.mod", "x.go", "b/y.go")) {
		t.Errorf("owned at the root: %v", got)
	}
	l = of("a/go.mod", "a/b/go.mod", "a/b/x.go")
	if got := tree.Owned(l, "a/b"); !slices.Equal(got, of("a/b/go.mod", "a/b/x.go")) {
		t.Errorf("the chapter's example: %v", got)
	}
}

// P14.1, R5: what is answered is the caller's own.
func TestOwnedIsNew(t *testing.T) {
	l := fleet()
	got := tree.Owned(l, "a")
	dirs := tree.Dirs(l)
	for i := range got {
		got[i] = api.File{Path: "changed"}
	}
	dirs[0] = "changed"
	_ = append(got[:1], api.File{Path: "changed"})
	if !files.Same(l, fleet()) || tree.Dirs(l)[0] != "a" {
		t.Error("the files that were handed in are changed")
	}
}

// told is the hash of a name, its bytes, and so on.
func told(l ...string) string {
	lines := ""
	for ; len(l) > 0; l = l[2:] {
		sum := sha256.Sum256([]byte(l[1]))
		lines += hex.EncodeToString(sum[:]) + "  " + l[0] + "\n"
	}
	sum := sha256.Sum256([]byte(lines))
	return "h1:" + base64.StdEncoding.EncodeToString(sum[:])
}

// hash is what P14.2 says, of Owned.
func hash(l []api.File, dir string) string {
	var parts []string
	for _, f := range tree.Owned(l, dir) {
		name := f.Path
		if dir != "" && f.Path != dir {
			name = f.Path[len(dir)+1:]
		}
		parts = append(parts, name, f.Data)
	}
	return told(parts...)
}

// P14.2: known answers.
func TestHash(t *testing.T) {
	l := []api.File{{Path: "a/b/go.mod", Data: "module m/b\n"}, {Path: "a/b/x.go"}, {Path: "a/go.mod", Data: "module m/a\n"}, {Path: "go.mod", Data: "module m\n"}, {Path: "ledger.txt", Data: "x"}, {Path: "y/z.go", Data: "\x00\xff\n"}}
	for dir, want := range map[string]string{
		"": told("go.mod", "module m\n", "y/z.go", "\x00\xff\n"), "a": told("go.mod", "module m/a\n"), "a/b": told("go.mod", "module m/b\n", "x.go", ""),
	} {
		if got, ok := tree.Hash(l, dir); got != want || !ok {
			t.Errorf("Hash of %q: %q, %v, want %q", dir, got, ok, want)
		}
	}
	// Worked out by sha256sum and base64, from "module m\n" in go.mod alone.
	l = []api.File{{Path: "d/go.mod", Data: "module m\n"}}
	if got, ok := tree.Hash(l, "d"); got != "h1:ctOyyZcdkNeS11Bx/Hh8c9pcGuH4+y+pgNNtQl7rlJc=" || !ok {
		t.Errorf("Hash of one file: %q, %v", got, ok)
	}
	for _, dir := range tree.Dirs(fleet()) {
		if got, ok := tree.Hash(fleet(), dir); got != hash(fleet(), dir) || !ok {
			t.Errorf("Hash of %q: %q, %v", dir, got, ok)
		}
	}
	for _, dir := range []string{"", "e", "ab", "a/", "/a", "a/in", "none", "A", "a/go.mod", "a/b/", tree.Ledger, "a/b/c", ".", "\xff"} {
		if got, ok := tree.Hash(fleet(), dir); got != "" || ok {
			t.Errorf("Hash of %q: %q, %v", dir, got, ok)
		}
	}
	if got, ok := tree.Hash(nil, ""); got != "" || ok {
		t.Errorf("Hash of no files: %q, %v", got, ok)
	}
}

// P14.2: a file whose path is the directory itself is told by all of it; a module of which another one has the manifest has no files.
func TestHashOfOddNames(t *testing.T) {
	for _, c := range []struct {
		l    []api.File
		dir  string
		want string
	}{
		{[]api.File{{Path: "a", Data: "1"}, {Path: "a/go.mod", Data: "2"}}, "a", told("a", "1", "go.mod", "2")},
		{[]api.File{{Path: "a/b", Data: "1"}, {Path: "a/b/go.mod", Data: "2"}}, "a/b", told("a/b", "1", "go.mod", "2")},
		{[]api.File{{Path: "a/a/x", Data: "1"}, {Path: "a/go.mod", Data: "2"}}, "a", told("a/x", "1", "go.mod", "2")},
		{[]api.File{{Path: "go.mod", Data: "1"}, {Path: "go.mod/go.mod", Data: "2"}}, "go.mod", told("go.mod", "1", "go.mod", "2")},
		{[]api.File{{Path: "go.mod", Data: "1"}, {Path: "go.mod/go.mod", Data: "2"}}, "", told()},
		{[]api.File{{Path: "a/go.mod", Data: "1"}, {Path: "a/go.mod/go.mod", Data: "2"}, {Path: "a/x", Data: "3"}}, "a", told("x", "3")},
		{[]api.File{{Path: "ledger.txt", Data: "1"}, {Path: "ledger.txt/go.mod", Data: "2"}}, "ledger.txt", told("go.mod", "2")},
	} {
		if got, ok := tree.Hash(c.l, c.dir); got != c.want || !ok {
			t.Errorf("Hash(%v, %q): %q, %v, want %q", c.l, c.dir, got, ok, c.want)
		}
	}
}

// P14.1, P14.2: of files that may not be there is nothing.
func TestWrongLists(t *testing.T) {
	for i, l := range wrongLists() {
		if files.May(l) {
			t.Fatalf("case %d: they may be", i)
		}
		owner, owned := tree.Owner(l, "a/x")
		hash, hashed := tree.Hash(l, "a")
		if dirs := tree.Dirs(l); len(dirs) != 0 || owner != "" || owned || len(tree.Owned(l, "a")) != 0 || hash != "" || hashed {
			t.Errorf("case %d: %q, %q, %v, %v, %q, %v", i, dirs, owner, owned, tree.Owned(l, "a"), hash, hashed)
		}
	}
}

// P14.2: whether it is a hash.
func TestIsHash(t *testing.T) {
	zeros := base64.StdEncoding.EncodeToString(make([]byte, 32))
	good := []string{"h1:" + zeros, "h1:" + strings.Repeat("/", 42) + "8=", told("x", "y"), told(), "h1:" + strings.Repeat("+", 42) + "A="}
	for _, s := range good {
		if !tree.IsHash(s) {
			t.Errorf("IsHash(%q) is false", s)
		}
	}
	wrong := []string{"", "h", "h1", "h1:", "h1: ", ":", zeros, "H1:" + zeros, "h2:" + zeros, "h1" + zeros, "h1::" + zeros, "h1:h1:" + zeros, " h1:" + zeros, "h1:" + zeros + " ", "h1:" + zeros + "\n", "h1: " + zeros, "h1:" + zeros + zeros, "h1:" + zeros[:43], "h1:" + zeros + "=",
		"h1:" + strings.Repeat("A", 44), "h1:" + strings.Repeat("A", 42) + "B=", "h1:" + strings.Repeat("A", 42) + "==", "h1:" + strings.Repeat("A", 43), "h1:-" + zeros[1:], "h1:_" + zeros[1:], "h1:=" + zeros[1:], "h1:\n" + zeros, "h1:" + strings.Repeat("=", 44)}
	for n := range 100 {
		if n != 32 {
			wrong = append(wrong, "h1:"+base64.StdEncoding.EncodeToString(make([]byte, n)))
		}
	}
	for _, s := range wrong {
		if tree.IsHash(s) {
			t.Errorf("IsHash(%q) is true", s)
		}
	}
	for _, dir := range tree.Dirs(fleet()) {
		if s, _ := tree.Hash(fleet(), dir); !tree.IsHash(s) {
			t.Errorf("%q is no hash", s)
		}
	}
}

// made is files of short paths, many of them in one another.
func made(r *rand.Rand) []api.File {
	parts := []string{"a", "b", "a-b", "go.mod", "go.mod", "x", "ledger.txt", ".intent"}
	var paths []string
	for range 1 + r.Intn(12) {
		p := parts[r.Intn(len(parts))]
		for range r.Intn(3) {
			p += "/" + parts[r.Intn(len(parts))]
		}
		if !slices.Contains(paths, p) {
			paths = append(paths, p)
		}
	}
	return of(paths...)
}

// hashes are those of all modules of l.
func hashes(l []api.File) map[string]string {
	m := map[string]string{}
	for _, dir := range tree.Dirs(l) {
		m[dir], _ = tree.Hash(l, dir)
	}
	return m
}

// P14.3: no file is owned twice, and each that has an owner is owned by it.
func TestOwnedOnce(t *testing.T) {
	r := rand.New(rand.NewSource(1))
	for range 3000 {
		l := made(r)
		owners := map[string][]string{}
		for _, dir := range tree.Dirs(l) {
			for _, f := range tree.Owned(l, dir) {
				owners[f.Path] = append(owners[f.Path], dir)
			}
		}
		for _, f := range l {
			dir, ok := tree.Owner(l, f.Path)
			if ok && !slices.Equal(owners[f.Path], []string{dir}) || !ok && len(owners[f.Path]) > 0 {
				t.Fatalf("%v: %q is owned by %q, its owner is %q", l, f.Path, owners[f.Path], dir)
			}
		}
	}
}

// P14.3: on a file's bytes its owner's hash hangs, and no other; on a file that is not owned none.
func TestWhoseHash(t *testing.T) {
	r := rand.New(rand.NewSource(2))
	for range 1000 {
		l := made(r)
		was := hashes(l)
		for i, f := range l {
			other := slices.Clone(l)
			other[i].Data += "x"
			owner, ok := tree.Owner(l, f.Path)
			for dir, now := range hashes(other) {
				if (now != was[dir]) != (ok && dir == owner) {
					t.Fatalf("%v: with other bytes of %q the hash of %q is %q, it was %q", l, f.Path, dir, now, was[dir])
				}
			}
			if gone := hashes(slices.Delete(slices.Clone(l), i, i+1)); !ok && !maps.Equal(gone, was) {
				t.Fatalf("%v: without %q the hashes are %q, they were %q", l, f.Path, gone, was)
			}
		}
	}
}

// P14.2: what is told hangs on names and bytes, each of them.
func TestHashTellsApart(t *testing.T) {
	seen := map[string]int{}
	lists := [][]api.File{
		{{Path: "a/go.mod"}}, {{Path: "a/go.mod", Data: "x"}}, {{Path: "a/go.mod", Data: "\n"}}, {{Path: "a/go.mod"}, {Path: "a/x"}}, {{Path: "a/go.mod"}, {Path: "a/y"}}, {{Path: "a/go.mod"}, {Path: "a/x", Data: "y"}}, {{Path: "a/go.mod"}, {Path: "a/x/y"}}, {{Path: "a/go.mod"}, {Path: "a/x"}, {Path: "a/y"}}, {{Path: "a/Go"}, {Path: "a/go.mod"}},
	}
	for i, l := range lists {
		s, ok := tree.Hash(l, "a")
		if j, is := seen[s]; !ok || is {
			t.Errorf("case %d: as case %d, %v", i, j, ok)
		}
		seen[s] = i
		again := slices.Clone(l)
		for k := range again {
			again[k].Path = "b/c" + again[k].Path[1:]
		}
		if other, _ := tree.Hash(again, "b/c"); other != s {
			t.Errorf("case %d: in another directory %q, not %q", i, other, s)
		}
	}
}
