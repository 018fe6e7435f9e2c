package unit_test

import (
	"math/rand"
	"slices"
	"strings"
	"testing"

	"farrier/api"
	"farrier/unit"
)

// named tells by layer 5's words whether a text is a name, pathed whether it is a path of at least one name.
func named(s string) bool {
	if len(s) < 1 || len(s) > 12 || s == "." || s == ".." {
		return false
	}
	for i := range len(s) {
		if !strings.Contains("abcdefghijklmnopqrstuvwxyz0123456789-._", s[i:i+1]) {
			return false
		}
	}
	return true
}

func pathed(s string) bool {
	if len(s) < 2 || len(s) > 40 || s[0] != '/' {
		return false
	}
	names := strings.Split(s[1:], "/")
	return len(names) <= 5 && !slices.ContainsFunc(names, func(n string) bool { return !named(n) })
}

// fault is the chapter's error of a line with a word and a rest, where some were said ahead, each a word and its rest.
func fault(word, rest string, ahead [][2]string) api.Errno {
	once := word == "unit" || word == "retry"
	n, twice := 0, false
	for _, other := range ahead {
		if other[0] == word {
			n++
			twice = twice || once || other[1] == rest
		}
	}
	switch {
	case !slices.Contains(words, word):
		return api.ErrForm
	case word == "file" && !pathed(rest), word != "file" && word != "retry" && !named(rest):
		return api.ErrName
	case word == "retry" && !slices.Contains([]string{"0", "1", "2", "3"}, rest):
		return api.ErrRange
	case twice:
		return api.ErrTwice
	case n >= 8:
		return api.ErrMany
	}
	return api.OK
}

// meant tells by the chapter's words what Parse should: all that is said, each a word and its rest, or the fault.
func meant(s string) ([][2]string, api.Errno, int) {
	var said [][2]string
	for i, line := range strings.Split(s, "\n") {
		if line == "" || line[0] == '#' {
			continue
		}
		word, rest := line, ""
		if at := strings.IndexByte(line, ' '); at >= 0 {
			word, rest = line[:at], line[at+1:]
		}
		if e := fault(word, rest, said); e != api.OK {
			return nil, e, i + 1
		}
		said = append(said, [2]string{word, rest})
	}
	if len(rests(said, "unit")) == 0 || len(rests(said, "file")) == 0 {
		return nil, api.ErrNone, 0
	}
	return said, api.OK, 0
}

// rests are the rests that were said of a word.
func rests(said [][2]string, word string) []string {
	var list []string
	for _, line := range said {
		if line[0] == word {
			list = append(list, line[1])
		}
	}
	return list
}

// asked holds Parse of a text, and Text of what it tells, against the model, and tells which error there was.
func asked(t *testing.T, s string) api.Errno {
	t.Helper()
	u, e, n := unit.Parse(s)
	said, want, line := meant(s)
	if e != want || n != line {
		t.Fatalf("of %q: error %d in line %d, not %d in line %d", s, e, n, want, line)
	}
	if e != api.OK {
		if !nothing(u) {
			t.Fatalf("of %q: %v beside error %d", s, u, e)
		}
		return e
	}
	whole, retry := "unit "+u.Name+"\n", append(rests(said, "retry"), "0")[0]
	if u.Name != rests(said, "unit")[0] || string(rune('0'+u.Retry)) != retry {
		t.Fatalf("of %q: %v", s, u)
	}
	for _, word := range many {
		if !slices.Equal(list(u, word), rests(said, word)) {
			t.Fatalf("of %q: of %s %v", s, word, list(u, word))
		}
		for _, rest := range rests(said, word) {
			whole += word + " " + rest + "\n"
		}
	}
	whole += "retry " + retry + "\n"
	if u.Text() != whole {
		t.Fatalf("of %q: the text %q, not %q", s, u.Text(), whole)
	}
	again, e, n := unit.Parse(whole)
	if e != api.OK || n != 0 || !same(again, u) || again.Text() != whole {
		t.Fatalf("of %q: its text is parsed as %v, error %d in line %d", s, again, e, n)
	}
	return api.OK
}

// maker makes texts by chance.
type maker struct{ *rand.Rand }

// one is one of some texts.
func (m maker) one(of ...string) string { return of[m.Intn(len(of))] }

// line is a line, which has a fault by itself so often of 100 times.
func (m maker) line(bad int) string {
	if m.Intn(100) < bad {
		return m.one(" ", "x a", "unit", "after  a", "file a", "file /", "retry 4", "retry", "before A", "wants a b", " unit a", "Unit a", "partof abcdefghijklm", "requires /a", "retry 1 ", "\t", "\r")
	}
	switch m.Intn(12) {
	case 0:
		return m.one("", "#", "# unit a", "#x", "# ")
	case 1:
		return "retry " + m.one("0", "1", "2", "3")
	case 2:
		return "unit " + m.one("a", "b", "c.d")
	case 3, 4, 5:
		return "file /" + m.one("a", "b", "c", "d", "a/b", "a/c", "e", "f", "g", "h", "i", "j")
	}
	return m.one(links...) + " " + m.one("a", "b", "c", "d", "e", "f", "g", "h", "i", "j", "k", "l", "m")
}

func TestRandomTexts(t *testing.T) {
	seen := map[api.Errno]int{}
	for seed := range 6000 {
		m := maker{rand.New(rand.NewSource(int64(seed)))}
		lines := []string{"unit web", "file /bin/web"}
		if m.Intn(4) == 0 {
			lines = lines[m.Intn(3):]
		}
		for range m.Intn(60) {
			// Lines that were said ahead come seldom, so that long texts are refused for the number, too.
			if line := m.line(1); !slices.Contains(lines, line) && !strings.HasPrefix(line, "unit") || m.Intn(60) == 0 {
				lines = append(lines, line)
			}
		}
		m.Shuffle(len(lines), func(i, j int) { lines[i], lines[j] = lines[j], lines[i] })
		seen[asked(t, strings.Join(lines, "\n")+m.one("", "\n", "\n\n"))]++
	}
	for _, e := range []api.Errno{api.OK, api.ErrForm, api.ErrName, api.ErrRange, api.ErrTwice, api.ErrMany, api.ErrNone} {
		if seen[e] < 50 {
			t.Errorf("error %d was met %d times alone", e, seen[e])
		}
	}
}

func TestRandomBytes(t *testing.T) {
	m := maker{rand.New(rand.NewSource(1))}
	for range 20000 {
		b := []byte(fullText)
		for range 1 + m.Intn(3) {
			at := m.Intn(len(b))
			switch m.Intn(3) {
			case 0:
				b[at] = byte(m.Intn(256))
			case 1:
				b = slices.Delete(b, at, at+1)
			default:
				b = slices.Insert(b, at, m.one("\n", " ", "#", "a", "/", "0", "\x00", ".")[0])
			}
		}
		asked(t, string(b))
	}
}
