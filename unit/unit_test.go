package unit_test

import (
	"fmt"
	"reflect"
	"slices"
	"strconv"
	"strings"
	"testing"

	"farrier/api"
	"farrier/unit"
)

// The words that may be said more than once, in Text's order; those of them that take a name; and all words.
var (
	many  = []string{"file", "after", "before", "requires", "wants", "partof"}
	links = many[1:]
	words = append([]string{"unit", "retry"}, many...)
)

// right is a text that says a unit, with nothing but what it must.
const right = "unit web\nfile /bin/web\n"

// text is the text of lines.
func text(lines ...string) string { return strings.Join(lines, "\n") + "\n" }

// rest is the i-th of the rests that a word may have behind it.
func rest(word string, i int) string {
	switch word {
	case "file":
		return fmt.Sprint("/f/", i)
	case "retry":
		return fmt.Sprint(i % 4)
	}
	return fmt.Sprint("n", i)
}

// list is what a unit has of a word that may be said more than once.
func list(u unit.Unit, word string) []string {
	return map[string][]string{
		"file": u.Files, "after": u.After, "before": u.Before,
		"requires": u.Requires, "wants": u.Wants, "partof": u.PartOf,
	}[word]
}

// nothing tells whether a unit is its zero value, but for lists that are empty instead of nil.
func nothing(u unit.Unit) bool {
	for _, word := range many {
		if len(list(u, word)) != 0 {
			return false
		}
	}
	return u.Name == "" && u.Retry == 0
}

// same tells whether two units are alike, a nil list and an empty one being one.
func same(a, b unit.Unit) bool {
	for _, word := range many {
		if !slices.Equal(list(a, word), list(b, word)) {
			return false
		}
	}
	return a.Name == b.Name && a.Retry == b.Retry
}

// refused holds a text to be refused by an error, in a line, and nothing to be told beside it; parsed holds it to say a unit.
func refused(t *testing.T, what, s string, want api.Errno, line int) {
	t.Helper()
	if u, e, n := unit.Parse(s); e != want || n != line || !nothing(u) {
		t.Errorf("%s: of %q %v, error %d in line %d, not %d in line %d", what, s, u, e, n, want, line)
	}
}

func parsed(t *testing.T, what, s string, want unit.Unit) {
	t.Helper()
	if u, e, n := unit.Parse(s); e != api.OK || n != 0 || !same(u, want) {
		t.Errorf("%s: of %q %v, error %d in line %d, not %v", what, s, u, e, n, want)
	}
}

// web is the unit that the text right says, with something more.
func web(more func(*unit.Unit)) unit.Unit {
	u := unit.Unit{Name: "web", Files: []string{"/bin/web"}}
	if more != nil {
		more(&u)
	}
	return u
}

// full is a unit with something in each list.
func full() unit.Unit {
	return unit.Unit{
		Name:     "web",
		Files:    []string{"/bin/web", "/lib/http", "/a"},
		After:    []string{"log", "db"},
		Before:   []string{"front", "a", "b"},
		Requires: []string{"db"},
		Wants:    []string{"cache", "log"},
		PartOf:   []string{"site"},
		Retry:    2,
	}
}

// fullText is full's text.
const fullText = "unit web\nfile /bin/web\nfile /lib/http\nfile /a\nafter log\nafter db\nbefore front\nbefore a\nbefore b\nrequires db\nwants cache\nwants log\npartof site\nretry 2\n"

func TestExamples(t *testing.T) {
	parsed(t, "the example", "unit web\nfile /bin/web\nafter db\nrequires db\nretry 2", web(func(u *unit.Unit) {
		u.After, u.Requires, u.Retry = []string{"db"}, []string{"db"}, 2
	}))
	refused(t, "the example", "unit web\nfile bin", api.ErrName, 2)
}

func TestNothingIsSaid(t *testing.T) {
	for _, s := range []string{"", "\n", "\n\n\n", "#", "# unit a", "#unit a\n#file /f\n", "\n#\n\n##\n", "# \n#", "#\x00\xff"} {
		refused(t, "nothing said", s, api.ErrNone, 0)
	}
}

func TestRemarksAndEmptyLinesSayNothing(t *testing.T) {
	parsed(t, "remarks between", "#\n\n# unit b\nunit web\n#retry 4\n\n\nfile /bin/web\n#file /c\n\n# ", web(nil))
	refused(t, "a remark behind a name", "unit web #\nfile /bin/web\n", api.ErrName, 1)
	refused(t, "a remark behind a blank", "unit web\n # \nfile /bin/web\n", api.ErrForm, 2)
	refused(t, "a remark alone behind a word", right+"after #db\n", api.ErrName, 3)
}

func TestEndOfTheText(t *testing.T) {
	parsed(t, "with a byte 10", right, web(nil))
	parsed(t, "without", strings.TrimSuffix(right, "\n"), web(nil))
	parsed(t, "with several", right+"\n\n", web(nil))
	parsed(t, "with several ahead", "\n\n"+right, web(nil))
	refused(t, "with a byte 13", "unit web\r\nfile /bin/web\r\n", api.ErrName, 1)
	refused(t, "a byte 13 alone", right+"\r\n", api.ErrForm, 3)
	refused(t, "a byte 13 in the stead of a byte 10", "unit web\rfile /bin/web", api.ErrName, 1)
	refused(t, "a byte 0 at the end", right+"\x00", api.ErrForm, 3)
}

func TestEachWord(t *testing.T) {
	for _, word := range many {
		var want []string
		s := right
		if word == "file" {
			want = []string{"/bin/web"}
		}
		for i := range 3 {
			// Not in order, as they are told in the order in which they were said.
			s += word + " " + rest(word, 5-i) + "\n"
			want = append(want, rest(word, 5-i))
		}
		u, e, n := unit.Parse(s)
		if e != api.OK || n != 0 || !slices.Equal(list(u, word), want) {
			t.Errorf("%s: %v, error %d in line %d", word, u, e, n)
		}
		for _, other := range many {
			if other != word && len(list(u, other)) != len(list(web(nil), other)) {
				t.Errorf("%s: said, too, was %s, by %v", word, other, list(u, other))
			}
		}
	}
	parsed(t, "all at once", fullText, full())
	parsed(t, "in another order", "retry 2\npartof site\nwants cache\nfile /bin/web\nbefore front\nwants log\nrequires db\nfile /lib/http\nbefore a\nafter log\nunit web\nfile /a\nbefore b\nafter db", full())
}

func TestWordsThatAreNone(t *testing.T) {
	for _, word := range []string{
		"units", "uni", "Unit", "UNIT", "files", "Files", "link", "need", "partOf", "part-of", "require", "want", "retries", "name", "x", "unit:", "unit=", "-", "é", "\x00", "\xff", "file#",
	} {
		for _, behind := range []string{"", " ", " web", " /bin/web", " 1", "  web"} {
			refused(t, "another word", right+word+behind+"\n", api.ErrForm, 3)
			refused(t, "another word first", word+behind+"\n"+right, api.ErrForm, 1)
		}
	}
	for _, word := range words {
		refused(t, "a blank ahead of "+word, right+" "+word+" "+rest(word, 1), api.ErrForm, 3)
		refused(t, "a tab ahead of "+word, right+"\t"+word+" "+rest(word, 1), api.ErrForm, 3)
		refused(t, "a tab behind "+word, right+word+"\t"+rest(word, 1), api.ErrForm, 3)
		refused(t, "no blank behind "+word, right+word+rest(word, 1), api.ErrForm, 3)
		refused(t, "a sign behind "+word, right+word+": "+rest(word, 1), api.ErrForm, 3)
	}
	refused(t, "a blank alone", right+" ", api.ErrForm, 3)
	refused(t, "blanks alone", right+"   \n", api.ErrForm, 3)
	refused(t, "a tab alone", right+"\t\n", api.ErrForm, 3)
}

// of is the error by which a word's rest is refused.
func of(word string) api.Errno {
	if word == "retry" {
		return api.ErrRange
	}
	return api.ErrName
}

func TestWordsWithNothingBehindThem(t *testing.T) {
	for _, word := range words {
		refused(t, "the word alone", word, of(word), 1)
		refused(t, "the word, and a blank", word+" ", of(word), 1)
		refused(t, "the word alone", right+word+"\n", of(word), 3)
		refused(t, "the word, and a blank", right+word+" \n", of(word), 3)
		refused(t, "two blanks", right+word+"  "+rest(word, 1)+"\n", of(word), 3)
		refused(t, "two blanks, and nothing", right+word+"  \n", of(word), 3)
		refused(t, "a blank at the end", right+word+" "+rest(word, 1)+" \n", of(word), 3)
		refused(t, "two rests", right+word+" "+rest(word, 1)+" "+rest(word, 2)+"\n", of(word), 3)
		refused(t, "a tab and the rest", right+word+" \t"+rest(word, 1)+"\n", of(word), 3)
	}
}

func TestRestsThatAreNoNames(t *testing.T) {
	bad := []string{".", "..", "a/b", "/a", "A", "wEb", "a b", "abcdefghijklm", "a,b", "é", "web\x00", "\xff", "/", "a:b", "a#"}
	for _, word := range append([]string{"unit"}, links...) {
		for _, s := range bad {
			refused(t, "no name", "file /f\n"+word+" "+s+"\n", api.ErrName, 2)
		}
	}
	for _, s := range []string{"a", "0", "-", "_", "...", ".a", "a.b-c_d", "abcdefghijkl", "unit", "retry"} {
		u, e, n := unit.Parse("file /f\nunit " + s)
		if e != api.OK || n != 0 || u.Name != s {
			t.Errorf("unit %q: %v, error %d in line %d", s, u, e, n)
		}
		for _, word := range links {
			u, e, n := unit.Parse(right + word + " " + s)
			if e != api.OK || n != 0 || !slices.Equal(list(u, word), []string{s}) {
				t.Errorf("%s %q: %v, error %d in line %d", word, s, u, e, n)
			}
		}
	}
}

func TestRestsThatAreNoPaths(t *testing.T) {
	long := "/abcdefghijkl/abcdefghijkl/abcdefghijkl/"
	for _, s := range []string{
		"/", "//", "a", "bin/web", "/a/", "//a", "/a//b", "/A", "/.", "/..", "/a/../b", "/a b", "/a ", "/abcdefghijklm", "/a/b/c/d/e/f", long, long + "a", "/a\x00", "/\xff", "./a", "~/a",
	} {
		refused(t, "no path", "unit a\nfile "+s+"\n", api.ErrName, 2)
		refused(t, "no path", right+"file "+s+"\n", api.ErrName, 3)
	}
	for _, s := range []string{"/a", "/...", "/a/b/c/d/e", "/abcdefghijkl/abcdefghijkl/abcdefghijkl", "/unit"} {
		parsed(t, "a path", "unit a\nfile "+s, unit.Unit{Name: "a", Files: []string{s}})
	}
}

func TestRetry(t *testing.T) {
	for i := range 4 {
		parsed(t, "a retry", right+"retry "+strconv.Itoa(i), web(func(u *unit.Unit) { u.Retry = i }))
		parsed(t, "a retry first", "retry "+strconv.Itoa(i)+"\n"+right, web(func(u *unit.Unit) { u.Retry = i }))
	}
	parsed(t, "no retry", right, web(nil))
	for _, s := range []string{
		"4", "5", "9", "10", "00", "01", "11", "03", "3.", "-1", "-0", "+1", "a", "x1", "1a", "", " ", "1 ", " 1", "3\t", "/", ":", "1\r", "\x01", "\x00", "３", "二", "0x1", "\xff",
	} {
		refused(t, "no digit", right+"retry "+s+"\n", api.ErrRange, 3)
	}
}

func TestSaidTwice(t *testing.T) {
	for _, word := range words {
		for i := range 4 {
			s := word + " " + rest(word, i) + "\n"
			refused(t, "said twice alike", s+s+right, api.ErrTwice, 2)
			for j := range 4 {
				if i == j {
					continue
				}
				others := s + word + " " + rest(word, j) + "\n"
				if word == "unit" || word == "retry" {
					refused(t, "said twice, though not alike", others+right, api.ErrTwice, 2)
				} else if u, e, n := unit.Parse(others + right); e != api.OK || n != 0 || !slices.Equal(list(u, word)[:2], []string{rest(word, i), rest(word, j)}) {
					t.Errorf("%s, with other rests: %v, error %d in line %d", word, u, e, n)
				}
			}
		}
	}
	refused(t, "a file said with something between", right+"after a\nfile /a\nfile /bin/web\n", api.ErrTwice, 5)
	refused(t, "a retry of 0 said twice", right+"retry 0\nretry 0\n", api.ErrTwice, 4)
	refused(t, "a retry said behind one of 0", right+"retry 0\nretry 3\n", api.ErrTwice, 4)
	refused(t, "the same unit at the end", right+"unit web", api.ErrTwice, 3)
}

func TestTheSameRestOfSeveralWords(t *testing.T) {
	for _, a := range links {
		for _, b := range links {
			if a == b {
				continue
			}
			u, e, n := unit.Parse(right + a + " db\n" + b + " db\n")
			if e != api.OK || n != 0 || !slices.Equal(list(u, a), []string{"db"}) || !slices.Equal(list(u, b), []string{"db"}) {
				t.Errorf("%s and %s: %v, error %d in line %d", a, b, u, e, n)
			}
		}
	}
	s := right
	for _, word := range links {
		s += word + " web\n"
	}
	own := []string{"web"}
	parsed(t, "its own name", s, web(func(u *unit.Unit) {
		u.After, u.Before, u.Requires, u.Wants, u.PartOf = own, own, own, own, own
	}))
}

// said is so many lines of a word.
func said(word string, n int) string {
	var b strings.Builder
	for i := range n {
		b.WriteString(word + " " + rest(word, i) + "\n")
	}
	return b.String()
}

func TestAsManyAsThereMayBe(t *testing.T) {
	for _, word := range many {
		ahead, line := right, 2
		if word == "file" {
			ahead, line = "unit web\n", 1
		}
		for n := 1; n <= 8; n++ {
			u, e, at := unit.Parse(ahead + said(word, n))
			if e != api.OK || at != 0 || len(list(u, word)) != n || list(u, word)[n-1] != rest(word, n-1) {
				t.Errorf("%d of %s: %v, error %d in line %d", n, word, u, e, at)
			}
		}
		refused(t, "9 of one word", ahead+said(word, 9), api.ErrMany, line+9)
		refused(t, "20 of one word", ahead+said(word, 20), api.ErrMany, line+9)
		refused(t, "9, the last of which was said", ahead+said(word, 8)+word+" "+rest(word, 0), api.ErrTwice, line+9)
		refused(t, "9, the last of which is none", ahead+said(word, 8)+word+" A", api.ErrName, line+9)
		refused(t, "9, the last of which is empty", ahead+said(word, 8)+word, api.ErrName, line+9)
	}
	s := "unit web\n"
	for _, word := range many {
		s += said(word, 8)
	}
	u, e, n := unit.Parse(s + "retry 3")
	if e != api.OK || n != 0 || u.Retry != 3 {
		t.Errorf("8 of each word: %v, error %d in line %d", u, e, n)
	}
	for _, word := range many {
		if len(list(u, word)) != 8 {
			t.Errorf("8 of each word: of %s %v", word, list(u, word))
		}
		refused(t, "9 of one word, behind 8 of each", s+word+" "+rest(word, 8), api.ErrMany, 50)
	}
}

func TestWhichFaultOfALineIsTold(t *testing.T) {
	refused(t, "another word, and no name", right+"link A", api.ErrForm, 3)
	refused(t, "another word, said twice", "link a\nlink a\n", api.ErrForm, 1)
	refused(t, "no name, and said ahead", right+"unit A\n", api.ErrName, 3)
	refused(t, "no digit, and said ahead", right+"retry 1\nretry 4\n", api.ErrRange, 4)
	refused(t, "no digit, and said ahead alike", right+"retry 0\nretry \n", api.ErrRange, 4)
	refused(t, "said ahead, and too many", right+said("after", 8)+"after n7\n", api.ErrTwice, 11)
	refused(t, "no path, and too many", right+said("file", 7)+"file /\n", api.ErrName, 10)
}

func TestTheFirstLinesFaultIsTold(t *testing.T) {
	faults := []struct {
		line string
		e    api.Errno
	}{{"link a", api.ErrForm}, {"after A", api.ErrName}, {"file f", api.ErrName}, {"retry 4", api.ErrRange}, {"unit web", api.ErrTwice}, {"wants n0", api.ErrTwice}, {"wants n8", api.ErrMany}}
	ahead := right + said("wants", 8)
	for _, a := range faults {
		refused(t, "one fault", ahead+a.line, a.e, 11)
		for _, b := range faults {
			refused(t, "two faults", ahead+text(a.line, b.line), a.e, 11)
			refused(t, "two faults, with a line between", ahead+text("retry 0", a.line, "after a", b.line), a.e, 12)
		}
		refused(t, "a fault, and no name", text("file /f", said("wants", 8)+"unit web", a.line), a.e, 11)
	}
	refused(t, "no name at the end, and a fault", text("file /f", "after A"), api.ErrName, 2)
	refused(t, "neither name nor file, and two faults", text("", "link a", "after A"), api.ErrForm, 2)
}

func TestLinesAreCounted(t *testing.T) {
	refused(t, "the first line", "x", api.ErrForm, 1)
	refused(t, "behind an empty one", "\nx", api.ErrForm, 2)
	refused(t, "behind a remark", "#\nx\n", api.ErrForm, 2)
	refused(t, "behind many", "\n\n#\nunit a\n\n# x\nfile /f\n\n\nx\n\n", api.ErrForm, 10)
	refused(t, "behind a remark of another word", "# x\n\nunit a\nafter é", api.ErrName, 4)
	for n := range 400 {
		refused(t, "behind so many", strings.Repeat("\n", n)+"x", api.ErrForm, n+1)
		refused(t, "behind so many remarks", strings.Repeat("#\n", n)+"retry", api.ErrRange, n+1)
	}
}

func TestWithoutANameOrAFile(t *testing.T) {
	refused(t, "no name", "file /f\nafter a\nretry 1\n", api.ErrNone, 0)
	refused(t, "no file", "unit web\nafter a\nretry 1\n", api.ErrNone, 0)
	refused(t, "neither", "after a\nretry 1\n", api.ErrNone, 0)
	refused(t, "a file in a remark", "unit web\n#file /f\n", api.ErrNone, 0)
	refused(t, "a name in a remark", "#unit web\nfile /f\n", api.ErrNone, 0)
	refused(t, "no name, and a fault", "file /f\nx\n", api.ErrForm, 2)
	refused(t, "no file, and a fault", "x\nunit web\n", api.ErrForm, 1)
}

func TestText(t *testing.T) {
	if s := full().Text(); s != fullText {
		t.Errorf("all lists: %q", s)
	}
	if s := web(nil).Text(); s != right+"retry 0\n" {
		t.Errorf("no lists: %q", s)
	}
	for i := range 4 {
		u := web(func(u *unit.Unit) { u.Retry = i })
		if s := u.Text(); s != right+"retry "+strconv.Itoa(i)+"\n" {
			t.Errorf("a retry of %d: %q", i, s)
		}
	}
	empty := []string{}
	u := unit.Unit{Name: "web", Files: []string{"/bin/web"}, After: empty, Before: empty, Requires: empty, Wants: empty, PartOf: empty}
	if s := u.Text(); s != web(nil).Text() {
		t.Errorf("empty lists: %q", s)
	}
	for _, word := range many {
		u, _, _ := unit.Parse(right + said(word, 3))
		want := right + said(word, 3) + "retry 0\n"
		if s := u.Text(); s != want {
			t.Errorf("three of %s: %q", word, s)
		}
	}
}

func TestTextOfWhatIsNoUnit(t *testing.T) {
	for _, c := range []struct {
		u    unit.Unit
		want string
	}{
		{unit.Unit{}, "unit \nretry 0\n"},
		{unit.Unit{Name: "A B", Files: []string{"", "f", "f"}, Retry: 12}, "unit A B\nfile \nfile f\nfile f\nretry 12\n"},
		{unit.Unit{Name: "a", PartOf: []string{"a\nb"}, Retry: -1}, "unit a\npartof a\nb\nretry -1\n"},
	} {
		if s := c.u.Text(); s != c.want {
			t.Errorf("%v: %q, not %q", c.u, s, c.want)
		}
	}
}

func TestTextIsParsedAsTheUnit(t *testing.T) {
	units := []unit.Unit{full(), web(nil), web(func(u *unit.Unit) { u.Retry = 3 })}
	for _, word := range many {
		for _, n := range []int{1, 2, 8} {
			u, e, _ := unit.Parse("unit a\n" + said(word, n) + "file /z/z")
			if word == "file" {
				u, e, _ = unit.Parse("unit a\n" + said(word, n))
			}
			if e != api.OK {
				t.Fatalf("%d of %s: error %d", n, word, e)
			}
			units = append(units, u)
		}
	}
	for _, u := range units {
		s := u.Text()
		parsed(t, "a unit's text", s, u)
		if again, _, _ := unit.Parse(s); again.Text() != s {
			t.Errorf("again: %q, not %q", again.Text(), s)
		}
	}
}

// turn turns all that a unit has.
func turn(u unit.Unit) {
	for _, word := range many {
		l := list(u, word)
		for i := range l {
			l[i] = "x"
		}
		// What stands behind a list's end may be turned, too.
		_ = append(l, "x")
	}
}

func TestWhatIsToldMayBeTurned(t *testing.T) {
	u, _, _ := unit.Parse(fullText)
	v, _, _ := unit.Parse(fullText)
	turn(u)
	if !same(v, full()) {
		t.Errorf("another one's answer was turned: %v", v)
	}
	parsed(t, "behind turned lists", fullText, full())
	for _, word := range many {
		w, _, _ := unit.Parse(fullText)
		l := list(w, word)
		_ = append(l, "x", "y", "z")
		l[0] = "x"
		for _, other := range many {
			if other != word && !slices.Equal(list(w, other), list(v, other)) {
				t.Errorf("%s was turned by %s: %v", other, word, list(w, other))
			}
		}
	}
}

func TestTextTurnsNothing(t *testing.T) {
	u, was := full(), full()
	first := u.Text()
	if !reflect.DeepEqual(u, was) {
		t.Errorf("turned: %v", u)
	}
	turn(u)
	if s := u.Text(); s == first || strings.Count(s, " x\n") != 12 {
		t.Errorf("behind turned lists: %q", s)
	}
	if first != fullText {
		t.Errorf("a text that was told was turned: %q", first)
	}
}
