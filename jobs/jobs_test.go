package jobs_test

import (
	"slices"
	"strings"
	"testing"

	"farrier/api"
	"farrier/graph"
	"farrier/jobs"
	"farrier/unit"
)

// of is a unit of a name; each thing that is said of it is a list's word, and names, with blanks between.
func of(name string, said ...string) unit.Unit {
	u := unit.Unit{Name: name, Files: []string{"/bin/" + name}}
	for _, s := range said {
		words := strings.Split(s, " ")
		list := map[string]*[]string{
			"after": &u.After, "before": &u.Before, "requires": &u.Requires, "wants": &u.Wants, "partof": &u.PartOf,
		}[words[0]]
		*list = append(*list, words[1:]...)
	}
	return u
}

// made is the graph of units.
func made(t *testing.T, units ...unit.Unit) *graph.Graph {
	t.Helper()
	g, e, n := graph.New(units...)
	if e != api.OK {
		t.Fatalf("error %d of %q", e, n)
	}
	return g
}

// names are those of a text with blanks between them, orders of them are these, turned round, in order, and each twice.
func names(s string) []string { return strings.Fields(s) }

func orders(s string) [][]string {
	round, sorted := names(s), names(s)
	slices.Reverse(round)
	slices.Sort(sorted)
	return [][]string{names(s), round, sorted, slices.Concat(names(s), round)}
}

// planned holds Restart against what is to stop, and to start, in whichever order, and how often, those that run and that are hit are handed in.
func planned(t *testing.T, what string, was, now *graph.Graph, running, hit, stop, start string) {
	t.Helper()
	for _, r := range orders(running) {
		for _, h := range orders(hit) {
			p := jobs.Restart(was, now, r, h)
			if !slices.Equal(p.Stop, names(stop)) || !slices.Equal(p.Start, names(start)) {
				t.Errorf("%s, of %q that run, %q hit: stop %q, start %q, not %s, and %s", what, r, h, p.Stop, p.Start, stop, start)
			}
		}
	}
}

// gone holds Gone likewise.
func gone(t *testing.T, what string, now *graph.Graph, running, want string) {
	t.Helper()
	for _, r := range orders(running) {
		if got := jobs.Gone(now, r); !slices.Equal(got, names(want)) {
			t.Errorf("%s, of %q that run: %q, not %s", what, r, got, want)
		}
	}
}

func TestExample(t *testing.T) {
	g := made(t, of("a", "requires b"), of("b"))
	planned(t, "the example", g, g, "a b", "b", "a b", "b a")
}

func TestNothingIsHit(t *testing.T) {
	g, none := made(t, of("a", "requires b"), of("b")), made(t)
	planned(t, "nothing is hit", g, g, "a b", "", "", "")
	planned(t, "nothing is hit, and all goes", g, none, "a b", "", "", "")
	planned(t, "nothing runs", g, g, "", "a b", "", "")
	planned(t, "neither", g, g, "", "", "", "")
	planned(t, "no units", none, none, "", "", "", "")
	planned(t, "no units, and some that run", none, none, "a b", "a b", "", "")
	planned(t, "no units before", none, g, "a b", "a b", "", "")
	for _, list := range [][]string{nil, {}} {
		if p := jobs.Restart(g, g, list, list); len(p.Stop) != 0 || len(p.Start) != 0 {
			t.Errorf("of nothing there is %v", p)
		}
	}
}

func TestWhatDoesNotRun(t *testing.T) {
	g := made(t, of("a", "requires b"), of("b", "partof c"), of("c"), of("d", "requires c"))
	planned(t, "all run", g, g, "a b c d", "c", "d c a b", "b a c d")
	planned(t, "what is hit doesn't run", g, g, "a b d", "c", "d a b", "b a d")
	planned(t, "what leans doesn't run", g, g, "c", "c", "c", "c")
	planned(t, "what stands between doesn't run", g, g, "a c", "c", "c a", "a c")
	planned(t, "what is hit, and what stands between, don't run", g, g, "a", "c", "a", "a")
	planned(t, "nothing of this runs", g, g, "d", "a b", "", "")
	planned(t, "some that aren't there run", g, g, "x a y", "a x", "a", "a")
}

func TestWhatLeans(t *testing.T) {
	g := made(t, of("a", "wants b", "after b"), of("b"), of("c", "before b"), of("d", "requires b"), of("e", "partof d"), of("f"))
	planned(t, "what leans is hit, too", g, g, "a b c d e f", "b", "e d b", "b d e")
	planned(t, "on what it leans isn't", g, g, "a b c d e f", "e", "e", "e")
	planned(t, "of two", g, g, "a b c d e f", "f d", "f e d", "d e f")
	planned(t, "of one that leans on another one that is hit", g, g, "a b c d e f", "b d", "e d b", "b d e")
	planned(t, "of all", g, g, "a b c d e f", "a b c d e f", "f e d a b c", "c b a d e f")
}

func TestOneThatWasNotThere(t *testing.T) {
	was := made(t, of("b"), of("c", "requires b"))
	now := made(t, of("a"), of("b", "requires a"), of("c", "requires b"), of("d", "partof b"))
	// Only of the units of before something stops, whatever runs, and leans by the units of now.
	planned(t, "it is hit", was, now, "a b c d", "a", "", "")
	planned(t, "it leans", was, now, "a b c d", "b", "c b", "b c")
	planned(t, "both", was, now, "a b c d", "a c d", "c", "c")
	planned(t, "one of neither", was, now, "x b", "x", "", "")
	planned(t, "one of neither, and another one", was, now, "x b", "x b", "b", "b")
}

func TestOneThatIsNotThereAnyMore(t *testing.T) {
	was := made(t, of("a"), of("b", "requires a"), of("c", "requires b"), of("d", "partof a"))
	now := made(t, of("b"), of("c"))
	planned(t, "it is hit", was, now, "a b c d", "a", "d c b a", "b c")
	planned(t, "it leans", was, now, "a b c d", "d b", "d c b", "b c")
	planned(t, "none is there any more", was, made(t), "a b c d", "a", "d c b a", "")
	planned(t, "it alone runs", was, now, "a", "a", "a", "")
	planned(t, "it doesn't run", was, now, "b c", "a", "c b", "b c")
}

func TestOtherOrders(t *testing.T) {
	was := made(t, of("a", "requires b"), of("b", "requires c"), of("c"), of("d"))
	now := made(t, of("a"), of("b", "after a"), of("c", "requires b"), of("d", "before a"))
	planned(t, "turned round", was, now, "a b c d", "c", "a b c", "a b c")
	planned(t, "and the other way", now, was, "a b c d", "b", "c b", "c b")
	planned(t, "with one beside", was, now, "a b c d", "c d", "d a b c", "d a b c")
	planned(t, "the other way, with one beside", now, was, "a b c d", "d b", "c b d", "c b d")
	// Of those that stand behind none, the order in which they start is turned round, too.
	free := made(t, of("a"), of("b"), of("c"))
	planned(t, "of none behind another", free, free, "a b c", "a b c", "c b a", "a b c")
	planned(t, "some of these", free, free, "a b c", "c a", "c a", "a c")
	// What leans by the units of now alone goes on.
	planned(t, "what leans now", made(t, of("a"), of("b")), made(t, of("a", "requires b"), of("b")), "a b", "b", "b", "b")
	planned(t, "what leant before", made(t, of("a", "partof b"), of("b")), made(t, of("a"), of("b")), "a b", "b", "b a", "a b")
}

func TestGone(t *testing.T) {
	g, none := made(t, of("b"), of("d", "wants a", "after c", "before e")), made(t)
	gone(t, "none", g, "b d", "")
	gone(t, "none that run", g, "", "")
	gone(t, "none of one that runs", g, "d", "")
	gone(t, "some", g, "e b d a c", "a c e")
	gone(t, "all", none, "b a d c", "a b c d")
	gone(t, "all of others", g, "x a", "a x")
	gone(t, "twice", g, "x a x b a b", "a x")
	gone(t, "byte by byte", g, "aa a- b- B a. a \xff a0 _ 9", "9 B _ a a- a. a0 aa b- \xff")
	if got := jobs.Gone(g, []string{"", "b", ""}); !slices.Equal(got, []string{""}) {
		t.Errorf("of an empty name: %q", got)
	}
	for _, list := range [][]string{nil, {}} {
		if got := jobs.Gone(g, list); len(got) != 0 {
			t.Errorf("of nothing there is %q", got)
		}
	}
}

func TestWhatIsHandedInStays(t *testing.T) {
	was := made(t, of("a", "requires b"), of("b"), of("c"))
	now := made(t, of("a"), of("b", "after a"), of("d"))
	running, hit := names("c b a c x b"), names("c b x b c")
	spoil := func(list []string) {
		for i := range list[:cap(list)] {
			list[:cap(list)][i] = "spoilt"
		}
	}
	for range 2 {
		p, left := jobs.Restart(was, now, running, hit), jobs.Gone(now, running)
		if !slices.Equal(p.Stop, names("c a b")) || !slices.Equal(p.Start, names("a b")) || !slices.Equal(left, names("c x")) {
			t.Errorf("stop %q, start %q, gone %q", p.Stop, p.Start, left)
		}
		spoil(p.Stop)
		if !slices.Equal(p.Start, names("a b")) {
			t.Errorf("as what stops is turned, what starts is %q", p.Start)
		}
		spoil(p.Start)
		spoil(left)
		if !slices.Equal(running, names("c b a c x b")) || !slices.Equal(hit, names("c b x b c")) {
			t.Errorf("what was handed in is %q, and %q", running, hit)
		}
	}
	if got := slices.Concat(was.Names(), now.Names()); !slices.Equal(got, names("a b c a b d")) {
		t.Errorf("the graphs have %q", got)
	}
	// What was told stays, too, as what was handed in is turned.
	p, left := jobs.Restart(was, now, running, hit), jobs.Gone(now, running)
	spoil(running)
	spoil(hit)
	if !slices.Equal(p.Stop, names("c a b")) || !slices.Equal(p.Start, names("a b")) || !slices.Equal(left, names("c x")) {
		t.Errorf("stop %q, start %q, gone %q", p.Stop, p.Start, left)
	}
}
