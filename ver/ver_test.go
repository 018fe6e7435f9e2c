package ver_test

import (
	"fmt"
	"math"
	"math/rand"
	"regexp"
	"slices"
	"strconv"
	"strings"
	"testing"

	"farrier/ver"
)

// versions are what may be ones, by the chapter's words.
var versions = regexp.MustCompile(`\A(0|[1-9][0-9]{0,3})(\.(0|[1-9][0-9]{0,3})){0,3}(-[1-9][0-9]{0,3})?\z`)

// key is a text that stands in order as a version does: its numbers, each one more than it is, so that 0 is none; then its revision.
func key(s string) string {
	if !versions.MatchString(s) {
		return ""
	}
	front, revision, _ := strings.Cut(s, "-")
	var all [5]int
	for i, n := range strings.Split(front, ".") {
		all[i], _ = strconv.Atoi(n)
		all[i]++
	}
	all[4], _ = strconv.Atoi(revision)
	return fmt.Sprintf("%05d", all)
}

// compared, fits tell by the chapter's words what Compare and Fits should.
func compared(a, b string) int { return strings.Compare(key(a), key(b)) }

func fits(v string, way int, than string) bool {
	may := map[int][]int{0: {-1, 0, 1}, 1: {0, 1}, 2: {0}, 3: {-1}}
	return versions.MatchString(v) && slices.Contains(may[way], compared(v, than))
}

// asked holds all that can be asked of two texts against what should be told.
func asked(t *testing.T, a, b string) {
	t.Helper()
	if got, want := ver.Right(a), versions.MatchString(a); got != want {
		t.Errorf("Right(%q) tells %v", a, got)
	}
	if got, want := ver.Compare(a, b), compared(a, b); got != want {
		t.Errorf("Compare(%q, %q) tells %d, not %d", a, b, got, want)
	}
	for way := -1; way <= 5; way++ {
		if got, want := ver.Fits(a, way, b), fits(a, way, b); got != want {
			t.Errorf("Fits(%q, %d, %q) tells %v", a, way, b, got)
		}
	}
}

// right and wrong are texts that are versions, from the oldest one to the newest, and texts that are none.
var (
	right = []string{
		"0", "0-1", "0-9999", "0.0", "0.0-1", "0.0.0", "0.0.0.0", "0.0.0.0-1", "0.0.0.1", "0.0.1", "0.1", "0.9999",
		"1", "1-1", "1-2", "1-9", "1-10", "1-99", "1-100", "1-999", "1-1000", "1-9998", "1-9999",
		"1.0", "1.0-9", "1.0.0", "1.0.0-3", "1.0.0.0", "1.1", "1.2", "1.2-1", "1.2-9", "1.2.0", "1.2.0-1", "1.2.3", "1.2.3-4", "1.2.3.0", "1.2.3.4", "1.2.3.4-5", "1.2.3.5", "1.2.10", "1.3",
		"1.9", "1.10", "1.10.0", "1.99", "1.100", "1.999", "1.1000", "1.9999", "1.9999.9999.9999-9999",
		"2", "9", "9-1", "10", "99", "100", "999", "1000", "9998", "9998.9999.9999.9999-9999", "9999", "9999-9999", "9999.0", "9999.9999", "9999.9999.9999", "9999.9999.9999.9999", "9999.9999.9999.9999-9999",
	}
	wrong = []string{
		"",
		"1.2.3.4.5", "0.0.0.0.0", "1.2.3.4.5-1", "1.2.3.4.5.6.7.8", "1.2.3.4.",
		"10000", "1.10000", "1.2.3.10000", "10000.1", "99999", "100000000000000000000000", "18446744073709551617", "4294967297", "65537",
		"00", "01", "09", "000", "0001", "00001", "1.00", "1.01", "1.2.03", "1.2.3.04", "01.2",
		"1-0", "1-10000", "1-99999", "1-01", "1-00", "1-001", "1-18446744073709551617", "1.2-0", "1.2.3.4-0", "1.2.3.4-10000",
		".", "..", ".1", "1.", "1..2", "..1", "1.2..", "1.2..3", "1...2", "...", ".-1", "1.-1", ".1-1",
		"-", "--", "-1", "1-", "1.2-", "1--1", "1--", "1-1-", "1-1-1", "-1-1", "1-1.0", "1-1.", "1-.1", "1-.", "1-2.3", "-.1",
		"+1", "-0", "+0", "1.+2", "1.-2", "1-+1", "1--2", "1-2+",
		" ", " 1", "1 ", "1. 2", "1 .2", "1 -1", "1- 1", "1-1 ", "\t1", "1\n", "\n1", "1-1\n", "1\x00", "\x001", "1.2\x00",
		"a", "1a", "a1", "1.a", "1.2b", "1-a", "1-1a", "1-a1", "v1", "1e3", "0x1", "1_0", "1,2", "1/2", "1:2", "1;", "1\u2013" + "1", "1~1",
		"/", ":", "1/", "1:", "1./", "1-:", "\x2f", "\x3a", "\xb1", "1\xff", "\xff", "1.\xc3", "\u0661", "1.\u0662", "1-\u0661", "\uff11", "1\u00b7" + "2", "\u00bd", "1\u00ad" + "1",
		strings.Repeat("1", 1000), strings.Repeat("1.", 1000), strings.Repeat(".", 1000), strings.Repeat("-", 1000), strings.Repeat("1-", 1000), "1." + strings.Repeat("0", 1000), "1-" + strings.Repeat("9", 1000), strings.Repeat("0", 1000),
	}
)

func TestExamples(t *testing.T) {
	for _, c := range []struct{ newer, older string }{{"1.10", "1.2"}, {"1.2-1", "1.2"}, {"1.2.0", "1.2-9"}, {"1.10", "1.2-1"}} {
		if ver.Compare(c.newer, c.older) != 1 || ver.Compare(c.older, c.newer) != -1 {
			t.Errorf("%s isn't newer than %s", c.newer, c.older)
		}
	}
}

func TestWaysHaveTheirNumbers(t *testing.T) {
	if ver.Any != 0 || ver.Least != 1 || ver.Just != 2 || ver.Below != 3 {
		t.Errorf("%d %d %d %d", ver.Any, ver.Least, ver.Just, ver.Below)
	}
}

func TestRightTellsVersions(t *testing.T) {
	for _, s := range right {
		if !ver.Right(s) {
			t.Errorf("%q is told to be no version", s)
		}
	}
	for _, s := range wrong {
		if ver.Right(s) {
			t.Errorf("%q is told to be a version", s)
		}
	}
}

func TestEachNumberIsFromNoughtTo9999(t *testing.T) {
	for n := -100; n <= 11000; n++ {
		s, ok := strconv.Itoa(n), n >= 0 && n <= 9999
		for _, front := range []string{"", "0.", "1.2.", "9999.0.9999."} {
			if got := ver.Right(front + s); got != ok {
				t.Errorf("Right(%q) tells %v", front+s, got)
			}
		}
		for _, front := range []string{"0-", "1.2-", "9999.0.9999.0-"} {
			if got := ver.Right(front + s); got != (ok && n > 0) {
				t.Errorf("Right(%q) tells %v", front+s, got)
			}
		}
	}
}

func TestNoOtherByteStandsInAVersion(t *testing.T) {
	for b := range 256 {
		for _, s := range []string{"", "1", "12", "1.2", "1-2", "1.2-3", "1.2.3.4-5"} {
			for at := range len(s) + 1 {
				asked(t, s[:at]+string([]byte{byte(b)})+s[at:], s)
			}
		}
	}
}

func TestOneIsNewerThanAllAheadOfIt(t *testing.T) {
	for i, a := range right {
		for j, b := range right {
			want := 0
			switch {
			case i < j:
				want = -1
			case i > j:
				want = 1
			}
			if got := ver.Compare(a, b); got != want {
				t.Errorf("Compare(%q, %q) tells %d, not %d", a, b, got, want)
			}
		}
	}
}

func TestWhatIsNoVersionIsOlderThanAllThatAre(t *testing.T) {
	for _, a := range wrong {
		for _, b := range right {
			if ver.Compare(a, b) != -1 || ver.Compare(b, a) != 1 {
				t.Errorf("%q isn't older than %q", a, b)
			}
		}
		for _, b := range wrong {
			if got := ver.Compare(a, b); got != 0 {
				t.Errorf("Compare(%q, %q) tells %d", a, b, got)
			}
		}
	}
}

func TestFitsByEachWay(t *testing.T) {
	for _, c := range []struct {
		v, than string
		fits    [4]bool // Any, Least, Just, Below
	}{
		{"1.2", "1.10", [4]bool{true, false, false, true}},
		{"1.10", "1.2", [4]bool{true, true, false, false}},
		{"1.2", "1.2", [4]bool{true, true, true, false}},
		{"1.2-1", "1.2", [4]bool{true, true, false, false}},
		{"1.2", "1.2-1", [4]bool{true, false, false, true}},
		{"1.2.0", "1.2-9", [4]bool{true, true, false, false}},
		{"1.2-9", "1.2.0", [4]bool{true, false, false, true}},
		{"0", "0.0", [4]bool{true, false, false, true}},
		{"9999.9999.9999.9999-9999", "9999.9999.9999.9999-9999", [4]bool{true, true, true, false}},
		// What is no version is older than all.
		{"0", "", [4]bool{true, true, false, false}},
		{"0", "01", [4]bool{true, true, false, false}},
		{"0", "10000", [4]bool{true, true, false, false}},
		{"", "", [4]bool{}},
		{"", "0", [4]bool{}},
		{"01", "01", [4]bool{}},
		{"10000", "1", [4]bool{}},
		{"1-0", "1", [4]bool{}},
		{"1.", "1", [4]bool{}},
	} {
		for way, want := range c.fits {
			if got := ver.Fits(c.v, way, c.than); got != want {
				t.Errorf("Fits(%q, %d, %q) tells %v", c.v, way, c.than, got)
			}
		}
	}
}

func TestNothingFitsByAnotherWay(t *testing.T) {
	for _, way := range []int{math.MinInt, -1 << 32, -4, -3, -2, -1, 4, 5, 6, 7, 255, 256, 257, 258, 259, 1 << 32, 1<<32 + 1, 1<<32 + 2, 1<<32 + 3, math.MaxInt} {
		for _, v := range []string{"0", "1", "1.2", "1.2-3", "2", ""} {
			for _, than := range []string{"", "0", "1.2", "9"} {
				if ver.Fits(v, way, than) {
					t.Errorf("Fits(%q, %d, %q) tells true", v, way, than)
				}
			}
		}
	}
}

func TestAllOfTextsThatAreToldOf(t *testing.T) {
	all := slices.Concat(right, wrong)
	for _, a := range all {
		for _, b := range all {
			asked(t, a, b)
		}
	}
}

func TestAllShortTexts(t *testing.T) {
	const bytes = "019.-+ a"
	texts := []string{""}
	for at := 0; len(texts[at]) < 5; at++ {
		for _, b := range bytes {
			texts = append(texts, texts[at]+string(b))
		}
	}
	for i, a := range texts {
		asked(t, a, texts[(i*7919+13)%len(texts)])
	}
}

func TestRandomTexts(t *testing.T) {
	r := rand.New(rand.NewSource(9))
	numbers := []string{"0", "1", "2", "9", "10", "11", "99", "100", "999", "1000", "9998", "9999", "10000", "01", "00", "", "+1", " 1", "a"}
	few := func(most int) string {
		// Those that are numbers come more often than those that are none.
		if r.Intn(12) > 0 {
			return numbers[r.Intn(12)]
		}
		return numbers[r.Intn(most)]
	}
	text := func() string {
		list := make([]string, 1+r.Intn(5))
		for i := range list {
			list[i] = few(len(numbers))
		}
		s := strings.Join(list, ".")
		if r.Intn(2) == 0 {
			s += "-" + few(len(numbers))
		}
		return s
	}
	for range 100000 {
		a, b := text(), text()
		if r.Intn(3) == 0 {
			b = a[:r.Intn(len(a)+1)] + b[r.Intn(len(b)+1):]
		}
		asked(t, a, b)
		if ver.Compare(a, b) != -ver.Compare(b, a) {
			t.Errorf("%q and %q stand in no order", a, b)
		}
	}
}

func TestLongTexts(t *testing.T) {
	const most = 1 << 22
	for _, s := range []string{"1", "0", ".", "-", "1.", "1-", ".1", "-1", "1.2.3.4-5", "\x00", "\xff"} {
		long := strings.Repeat(s, most/len(s))
		if ver.Right(long) || ver.Fits(long, ver.Any, "1") || ver.Compare(long, "0") != -1 || ver.Compare("0", long) != 1 || ver.Compare(long, long) != 0 || !ver.Fits("0", ver.Least, long) {
			t.Errorf("%q again and again is told to be a version", s)
		}
	}
}
