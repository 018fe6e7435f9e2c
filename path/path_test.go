package path_test

import (
	"math/rand"
	"regexp"
	"slices"
	"strings"
	"testing"

	"farrier/path"
)

// names and paths are what may be ones, but for . and two of these, and for how long a path is in all.
var (
	names = regexp.MustCompile(`\A[a-z0-9._-]{1,12}\z`)
	paths = regexp.MustCompile(`\A(/[^/]+){1,5}\z`)
)

// isName and split tell by the chapter's words what Name and Split should.
func isName(s string) bool { return names.MatchString(s) && s != "." && s != ".." }

func split(s string) ([]string, bool) {
	if s == "/" {
		return nil, true
	}
	if !paths.MatchString(s) || len(s) > 40 {
		return nil, false
	}
	list := strings.Split(s, "/")[1:]
	for _, n := range list {
		if !isName(n) {
			return nil, false
		}
	}
	return list, true
}

// asked holds all that can be asked of one text, and of it and another one, against what should be told.
func asked(t *testing.T, s, dir string) {
	t.Helper()
	if got, want := path.Name(s), isName(s); got != want {
		t.Errorf("Name of %q tells %v", s, got)
	}
	want, ok := split(s)
	if got, is := path.Split(s); is != ok || !slices.Equal(got, want) {
		t.Errorf("Split of %q tells %q, %v, not %q, %v", s, got, is, want, ok)
	}
	if got := path.Right(s); got != (len(want) > 0) {
		t.Errorf("Right of %q tells %v", s, got)
	}
	parent, name := "", ""
	if n := len(want); n > 0 {
		name = want[n-1]
		if parent = strings.TrimSuffix(s, "/"+name); parent == "" {
			parent = "/"
		}
	}
	if p, n, is := path.Parent(s); p != parent || n != name || is != (len(want) > 0) {
		t.Errorf("Parent of %q tells %q, %q, %v, not %q, %q", s, p, n, is, parent, name)
	}
	top, there := split(dir)
	within := ok && there && s != dir && (dir == "/" || strings.HasPrefix(s, dir+"/"))
	if got := path.Within(s, dir); got != within {
		t.Errorf("Within of %q and %q (%q) tells %v", s, dir, top, got)
	}
}

func TestExampleOfUsrLib(t *testing.T) {
	if !path.Within("/usr/lib", "/usr") {
		t.Error("/usr/lib doesn't stand within /usr")
	}
	if p, n, ok := path.Parent("/usr/lib"); p != "/usr" || n != "lib" || !ok {
		t.Errorf("/usr/lib is %q, %q, %v", p, n, ok)
	}
}

func TestNames(t *testing.T) {
	for s, want := range map[string]bool{
		"": false, "a": true, "z": true, "0": true, "9": true, "-": true, "_": true,
		".": false, "..": false, "...": true, ".a": true, "a.": true, "..a": true, "a..": true,
		"abcdefghijkl": true, "abcdefghijklm": false, "............": true, ".............": false,
		"A": false, "aB": false, " a": false, "a ": false, "a b": false, "a/b": false, "/": false, "a\n": false, "a\x00": false,
		"\u00e9": false, "a\u0301": false, "\xff": false, "a\xffb": false, "\ufffd": false, "\u0430": false, "\U0001f40e": false,
	} {
		if got := path.Name(s); got != want {
			t.Errorf("Name of %q tells %v", s, got)
		}
	}
	for b := range 256 {
		for _, s := range []string{string([]byte{byte(b)}), "a" + string([]byte{byte(b)}) + "c", string(rune(b)) + "x"} {
			asked(t, s, "/")
		}
	}
	for r := rune(0); r < 0x2000; r++ {
		if path.Name("x"+string(r)) != isName("x"+string(r)) {
			t.Errorf("Name of x and the rune %d tells %v", r, !isName("x"+string(r)))
		}
	}
}

func TestPaths(t *testing.T) {
	long := "/abcdefghijkl/abcdefghijkl/abcdefghijkl"
	for s, want := range map[string]int{
		"/": 0, "/a": 1, "/a/b": 2, "/a/b/c/d/e": 5, "/a/b/c/d/e/f": -1, "/...": 1, "/.a/b-_.9": 2,
		long: 3, long + "/": -1, long + "/a": -1, long[:38] + "/a": 4, long[:37] + "/ab": 4, long[:38] + "/ab": -1, long[:36] + "/a/b": 5,
		"/abcdefghijkl": 1, "/abcdefghijklm": -1,
		"": -1, "a": -1, "a/b": -1, "//": -1, "/a/": -1, "//a": -1, "/a//b": -1, "/.": -1, "/..": -1, "/a/./b": -1, "/a/../b": -1,
		" /a": -1, "/a ": -1, "/A": -1, "/a\n": -1, "/\n": -1, "/a\x00": -1, "\\a": -1, "/\u00e9": -1, "/\xff": -1,
		strings.Repeat("/a", 1<<20): -1, strings.Repeat("/", 41): -1,
	} {
		names, ok := path.Split(s)
		if ok != (want >= 0) || len(names) != max(want, 0) {
			t.Errorf("Split of %.50q tells %.50q, %v, of %d names", s, names, ok, want)
		}
		if got := path.Right(s); got != (want > 0) {
			t.Errorf("Right of %.50q tells %v", s, got)
		}
		if ok && path.Join(names...) != s {
			t.Errorf("%q, split and joined, is %q", s, path.Join(names...))
		}
		asked(t, s, "/a")
	}
}

func TestJoin(t *testing.T) {
	for want, names := range map[string][]string{
		"/": nil, "/a": {"a"}, "/a/b/c": {"a", "b", "c"}, "/a/b/c/d/e/f": {"a", "b", "c", "d", "e", "f"},
		"//": {"", ""}, "/.": {"."}, "/A b//\xff": {"A b", "", "\xff"}, "//a": {"/a"},
	} {
		if got := path.Join(names...); got != want {
			t.Errorf("Join of %q tells %q, not %q", names, got, want)
		}
	}
	if got := path.Join(""); got != "/" {
		t.Errorf("Join of an empty name tells %q", got)
	}
}

func TestParent(t *testing.T) {
	for s, want := range map[string][2]string{
		"/a": {"/", "a"}, "/a/b": {"/a", "b"}, "/a/b/c/d/e": {"/a/b/c/d", "e"}, "/a/a": {"/a", "a"}, "/.../...": {"/...", "..."},
	} {
		if p, n, ok := path.Parent(s); p != want[0] || n != want[1] || !ok {
			t.Errorf("Parent of %q tells %q, %q, %v", s, p, n, ok)
		}
	}
	for _, s := range []string{"", "/", "a", "//", "/a/", "/a/b/", "/a//b", "/..", "/a/..", "/../a", "/a/b/c/d/e/f", "/A/b", "/a/B"} {
		if p, n, ok := path.Parent(s); p != "" || n != "" || ok {
			t.Errorf("Parent of %q tells %q, %q, %v", s, p, n, ok)
		}
	}
}

func TestWithin(t *testing.T) {
	for _, c := range []struct {
		s, dir string
		want   bool
	}{
		{"/a", "/", true}, {"/a/b", "/", true}, {"/a/b", "/a", true}, {"/a/b/c/d/e", "/a", true}, {"/a/b/c/d/e", "/a/b/c/d", true},
		{"/", "/", false}, {"/a", "/a", false}, {"/a/b", "/a/b", false}, {"/a", "/a/b", false}, {"/", "/a", false},
		{"/ab", "/a", false}, {"/ab/c", "/a", false}, {"/a.b", "/a", false}, {"/a/bc", "/a/b", false}, {"/b/a", "/a", false}, {"/a/c/b", "/a/b", false},
		{"/a/b", "a", false}, {"/a/b", "", false}, {"/a/b", "/a/", false}, {"/a/b", "//", false}, {"a/b", "/", false}, {"", "/", false}, {"/a/", "/a", false},
		{"/a/b/c/d/e/f", "/a", false}, {"/a/b/c/d/e/f/g", "/a/b/c/d/e/f", false}, {"/A/b", "/A", false}, {"/a/B", "/a", false}, {"/a/..", "/a", false},
	} {
		if got := path.Within(c.s, c.dir); got != c.want {
			t.Errorf("Within of %q and %q tells %v", c.s, c.dir, got)
		}
	}
}

func TestWhatIsSplitIsNewMemory(t *testing.T) {
	a, _ := path.Split("/a/b")
	a[0] = "x"
	if b, _ := path.Split("/a/b"); !slices.Equal(b, []string{"a", "b"}) {
		t.Errorf("Split tells %q behind its answer being turned", b)
	}
	in := []string{"a", "b"}
	path.Join(in...)
	if !slices.Equal(in, []string{"a", "b"}) {
		t.Errorf("Join turned its names to %q", in)
	}
}

func TestOfAllTexts(t *testing.T) {
	r := rand.New(rand.NewSource(5))
	parts := []string{"/", "/", "/", "/", "a", "b", ".", "..", "-", "_", "z9", "abcdefgh", "A", " ", "\n", "\xff", "\u00e9", ""}
	text := func() string {
		var b strings.Builder
		for range r.Intn(14) {
			b.WriteString(parts[r.Intn(len(parts))])
		}
		return b.String()
	}
	for range 200000 {
		s := text()
		dir := text()
		if r.Intn(2) == 0 && s != "" {
			dir = s[:r.Intn(len(s)+1)]
		}
		asked(t, s, dir)
	}
}
