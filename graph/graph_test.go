package graph_test

import (
	"fmt"
	"slices"
	"strings"
	"testing"

	"farrier/api"
	"farrier/graph"
	"farrier/unit"
)

// lists are a unit's lists, each by its word.
func lists(u *unit.Unit) map[string]*[]string {
	return map[string]*[]string{
		"file": &u.Files, "after": &u.After, "before": &u.Before,
		"requires": &u.Requires, "wants": &u.Wants, "partof": &u.PartOf,
	}
}

// of is a unit of a name; each thing that is said of it is a list's word, and names, with blanks between.
func of(name string, said ...string) unit.Unit {
	u := unit.Unit{Name: name, Files: []string{"/bin/" + name}}
	for _, s := range said {
		words := strings.Split(s, " ")
		list := lists(&u)[words[0]]
		*list = append(*list, words[1:]...)
	}
	return u
}

// many are so many units, of which nothing is said.
func many(n int) []unit.Unit {
	var list []unit.Unit
	for i := range n {
		list = append(list, of(fmt.Sprintf("u%02d", i)))
	}
	return list
}

// turns are some orders of some units: as they are, turned round, and each of them first, with the others as they were.
func turns(units []unit.Unit) [][]unit.Unit {
	round := slices.Clone(units)
	slices.Reverse(round)
	list := [][]unit.Unit{units, round}
	for i := range units {
		list = append(list, slices.Concat(units[i:], units[:i]), slices.Concat(units[i:i+1], units[:i], units[i+1:]))
	}
	return list
}

// made is the graph of units, held against the model in whichever order they are handed in.
func made(t *testing.T, units ...unit.Unit) *graph.Graph {
	t.Helper()
	for i, turned := range turns(units) {
		g, e, n := graph.New(turned...)
		if g == nil || e != api.OK || n != "" {
			t.Fatalf("turn %d: %v, error %d of %q", i, g, e, n)
		}
		asked(t, fmt.Sprint("turn ", i), g, units)
	}
	g, _, _ := graph.New(units...)
	return g
}

// refused holds New to tell an error, and a name, of units, in whichever order they are handed in.
func refused(t *testing.T, what string, want api.Errno, name string, units ...unit.Unit) {
	t.Helper()
	for i, turned := range turns(units) {
		refusedSo(t, fmt.Sprint(what, ", turn ", i), want, name, turned...)
	}
}

// refusedSo holds New to tell them of units in this order alone.
func refusedSo(t *testing.T, what string, want api.Errno, name string, units ...unit.Unit) {
	t.Helper()
	if g, e, n := graph.New(units...); g != nil || e != want || n != name {
		t.Errorf("%s: %v, error %d of %q, not %d of %q", what, g, e, n, want, name)
	}
}

// told holds what a call told against what it should, names with blanks between.
func told(t *testing.T, call string, got []string, want string) {
	t.Helper()
	if s := strings.Join(got, " "); s != want || len(got) != len(strings.Fields(want)) {
		t.Errorf("%s: %q, not %q", call, got, want)
	}
}

// order holds the order in which all are placed against what it should be.
func order(t *testing.T, want string, units ...unit.Unit) {
	t.Helper()
	g := made(t, units...)
	told(t, "Order", g.Order(g.Names()...), want)
}

func TestExample(t *testing.T) {
	g := made(t, of("a", "requires b"), of("b"), of("c", "before b", "partof a"))
	told(t, "Order", g.Order("a", "b", "c"), "c b a")
	told(t, "Lean", g.Lean("b"), "a b c")
	told(t, "Names", g.Names(), "a b c")
	told(t, "Behind", g.Behind("a"), "b")
	told(t, "Behind", g.Behind("b"), "c")
	told(t, "Behind", g.Behind("c"), "")
	told(t, "Pull", g.Pull("a"), "a b")
	told(t, "Pull", g.Pull("c"), "c")
}

func TestNoUnits(t *testing.T) {
	for _, none := range [][]unit.Unit{nil, {}} {
		g, e, n := graph.New(none...)
		if g == nil || e != api.OK || n != "" {
			t.Fatalf("%v, error %d of %q", g, e, n)
		}
		asked(t, "of no units", g, nil, []string{"a"}, []string{"a", "a", ""})
		told(t, "Names", g.Names(), "")
		if u, ok := g.Get(""); ok || !same(u, unit.Unit{}) {
			t.Errorf("there is %v", u)
		}
	}
}

func TestSixteenUnitsAndNotMore(t *testing.T) {
	g := made(t, many(16)...)
	if n := len(g.Names()); n != 16 {
		t.Errorf("there are %d", n)
	}
	refused(t, "17", api.ErrMany, "", many(17)...)
	refused(t, "100", api.ErrMany, "", many(100)...)
	// Sixteen in one row, each behind the next one.
	row := many(16)
	for i := range 15 {
		row[i].Requires = []string{row[i+1].Name}
	}
	g = made(t, row...)
	if first := g.Order(g.Names()...); first[0] != "u15" || first[15] != "u00" {
		t.Errorf("the order is %q", first)
	}
	if n := len(g.Lean("u15")); n != 16 {
		t.Errorf("%d lean on the last one", n)
	}
	if n := len(g.Pull("u00")); n != 16 {
		t.Errorf("the first one pulls %d", n)
	}
}

func TestTwoOfOneName(t *testing.T) {
	a, b, c := of("a"), of("b", "requires a"), of("c", "after b")
	other := of("a", "after b")
	other.Retry = 1
	for what, twin := range map[string]unit.Unit{"with the same parts": of("a"), "with others": other, "with none": {Name: "a"}} {
		refused(t, "alone, "+what, api.ErrTwice, "a", a, twin)
		refused(t, "next to one another, "+what, api.ErrTwice, "a", a, twin, b, c)
		refused(t, "far apart, "+what, api.ErrTwice, "a", a, b, c, twin)
		refused(t, "thrice, "+what, api.ErrTwice, "a", a, b, twin, c, twin)
	}
	// Of several the first one is told that has the name of one ahead of it, whichever is the least.
	refusedSo(t, "of several", api.ErrTwice, "b", a, b, b, a)
	refusedSo(t, "of several", api.ErrTwice, "a", b, a, a, b)
	refusedSo(t, "of several", api.ErrTwice, "a", a, b, a, b)
	refusedSo(t, "of several", api.ErrTwice, "b", b, a, b, a)
	refusedSo(t, "of several", api.ErrTwice, "c", c, b, a, c, a, b)
	// Names that one takes for alike are others.
	made(t, of("a"), of("A"), of("a "), of(" a"), of("a-"), of(""))
	refused(t, "of the empty name", api.ErrTwice, "", of(""), of("a"), of(""))
}

func TestOneThatIsNotThere(t *testing.T) {
	for _, word := range []string{"requires", "partof"} {
		refused(t, word, api.ErrNeeds, "a", of("a", word+" x"))
		refused(t, word+", beside others", api.ErrNeeds, "b", of("a"), of("b", word+" x"), of("c", word+" a"))
		refused(t, word+", the first of several", api.ErrNeeds, "b", of("b", word+" x a c"), of("a"), of("c"))
		refused(t, word+", the last of several", api.ErrNeeds, "b", of("b", word+" a c x"), of("a"), of("c"))
		refused(t, word+", an empty name", api.ErrNeeds, "a", of("a", word+" "))
		refused(t, word+", one that is alike", api.ErrNeeds, "b", of("a"), of("b", word+" A"))
		refused(t, word+", a longer one", api.ErrNeeds, "b", of("a"), of("b", word+" aa"))
		refused(t, word+", a shorter one", api.ErrNeeds, "b", of("aa"), of("b", word+" a"))
		// It is the least unit that is told, not the least one that isn't there.
		refused(t, word+", of several units", api.ErrNeeds, "b", of("c", word+" x"), of("b", word+" y"), of("a"))
		refused(t, word+", of several units", api.ErrNeeds, "b", of("d", word+" x"), of("b", word+" z"), of("c", word+" y"))
	}
	refused(t, "of the one and the other list", api.ErrNeeds, "a", of("b", "requires x"), of("a", "partof x"))
	refused(t, "of the one and the other list", api.ErrNeeds, "a", of("b", "partof x"), of("a", "requires x"))
	refused(t, "byte by byte", api.ErrNeeds, "B", of("a", "requires x"), of("B", "requires x"), of("b", "requires x"))
	refused(t, "byte by byte", api.ErrNeeds, "a", of("a-", "requires x"), of("a.", "requires x"), of("a", "requires x"), of("a0", "requires x"))
}

func TestOneThatIsNotThereAndMayBe(t *testing.T) {
	for _, word := range []string{"after", "before", "wants"} {
		g := made(t, of("a", word+" x"), of("b", word+" x y a"))
		if u, ok := g.Get("a"); !ok || !slices.Equal(*lists(&u)[word], []string{"x"}) {
			t.Errorf("%s: a is %v", word, u)
		}
		told(t, "Behind", g.Behind("x"), "")
		told(t, "Lean", g.Lean("x", "y"), "")
		told(t, "Pull", g.Pull("x", "y"), "")
		told(t, "Order", g.Order("x", "y", "a"), "a")
	}
	order(t, "a b", of("a", "after x", "before y", "wants reboot"), of("b", "after x a"))
}

func TestBehindItself(t *testing.T) {
	for _, word := range []string{"after", "before", "requires"} {
		refused(t, word, api.ErrCycle, "a", of("a", word+" a"))
		refused(t, word+", beside others", api.ErrCycle, "b", of("a"), of("b", word+" b"), of("c"))
		refused(t, word+", with others said", api.ErrCycle, "a", of("a", word+" b a c"), of("b"), of("c"))
		refused(t, word+", of two", api.ErrCycle, "b", of("a"), of("b", word+" b"), of("c", word+" c"))
	}
	for _, word := range []string{"wants", "partof"} {
		g := made(t, of("a", word+" a"), of("b"))
		told(t, word+": Behind", g.Behind("a"), "")
		told(t, word+": Order", g.Order("a", "b"), "a b")
		told(t, word+": Lean", g.Lean("a"), "a")
		told(t, word+": Pull", g.Pull("a"), "a")
	}
}

func TestCircles(t *testing.T) {
	// Each of these says that the one stands behind the other.
	says := []string{"after", "requires", "before"}
	behind := func(word, n, other string) unit.Unit {
		if word == "before" {
			return of(other, "before "+n)
		}
		return of(n, word+" "+other)
	}
	join := func(units ...unit.Unit) []unit.Unit {
		var list []unit.Unit
		for _, u := range units {
			i := slices.IndexFunc(list, func(o unit.Unit) bool { return o.Name == u.Name })
			if i < 0 {
				list = append(list, u)
				continue
			}
			list[i].After = append(list[i].After, u.After...)
			list[i].Before = append(list[i].Before, u.Before...)
			list[i].Requires = append(list[i].Requires, u.Requires...)
		}
		return list
	}
	for _, x := range says {
		for _, y := range says {
			two := []unit.Unit{behind(x, "m", "n"), behind(y, "n", "m")}
			what := x + " and " + y
			refused(t, what, api.ErrCycle, "m", join(append(two, of("m"), of("n"))...)...)
			// What can be placed beside the circle isn't told, though it is less.
			beside := append(two, of("a"), of("m"), of("n"), of("z", "requires a"), of("b", "after z"))
			refused(t, what+", beside others", api.ErrCycle, "m", join(beside...)...)
			// Nor is what stands ahead of it, but what stands behind it, if it is the least.
			ahead := append(two, behind(y, "m", "c"), of("c"), of("m"), of("n"))
			refused(t, what+", behind another", api.ErrCycle, "m", join(ahead...)...)
			later := append(two, behind(x, "k", "n"), behind(y, "d", "k"), of("a"), of("d"), of("k"), of("m"), of("n"), of("z"))
			refused(t, what+", with others behind", api.ErrCycle, "d", join(later...)...)
			for _, z := range says {
				three := []unit.Unit{behind(x, "c", "b"), behind(y, "b", "d"), behind(z, "d", "c"), of("a"), of("b"), of("c"), of("d"), of("e")}
				refused(t, what+" and "+z, api.ErrCycle, "b", join(three...)...)
			}
		}
	}
	all := many(16)
	for i := range all {
		all[i].After = []string{all[(i+1)%16].Name}
	}
	refused(t, "of 16", api.ErrCycle, "u00", all...)
	all[3].After = nil
	made(t, all...)
	refused(t, "of two circles", api.ErrCycle, "b", of("d", "after c"), of("c", "requires d"), of("e", "before b"), of("b", "before e"), of("a"))
}

func TestCircleByPartsAlone(t *testing.T) {
	g := made(t, of("a", "partof b"), of("b", "partof c"), of("c", "partof a"), of("d"))
	told(t, "Order", g.Order("d", "c", "b", "a"), "a b c d")
	for _, n := range []string{"a", "b", "c"} {
		told(t, "Lean "+n, g.Lean(n), "a b c")
		told(t, "Pull "+n, g.Pull(n), n)
		told(t, "Behind "+n, g.Behind(n), "")
	}
	// Parts that close a circle of others don't, either; nor do those that are wanted.
	g = made(t, of("a", "requires b"), of("b", "partof a"))
	told(t, "Order", g.Order("a", "b"), "b a")
	told(t, "Lean", g.Lean("a"), "a b")
	g = made(t, of("a", "after b"), of("b", "wants a", "partof a"))
	told(t, "Order", g.Order("a", "b"), "b a")
	told(t, "Lean", g.Lean("b"), "b")
	order(t, "a b", of("a", "wants b"), of("b", "wants a"))
}

func TestSeveralFaults(t *testing.T) {
	lacking, round := of("b", "requires x"), of("a", "after a")
	// Too many is told ahead of all, without a name.
	refused(t, "all faults", api.ErrMany, "", append(many(13), lacking, lacking, round, of("c", "partof y"))...)
	refused(t, "too many, and two of one name", api.ErrMany, "", append(many(16), of("u03"))...)
	refused(t, "too many, and a circle", api.ErrMany, "", append(many(16), round)...)
	// Two of one name are told ahead of what isn't there, and of circles, wherever they stand.
	refused(t, "two of one name, and more", api.ErrTwice, "z", lacking, of("z"), round, of("z"))
	refused(t, "two of one name, and what isn't there", api.ErrTwice, "z", lacking, of("z"), of("z"))
	refused(t, "two of one name, and a circle", api.ErrTwice, "z", round, of("z"), of("z"))
	refused(t, "two with what isn't there", api.ErrTwice, "b", lacking, lacking)
	refused(t, "two of one name, of which one makes good", api.ErrTwice, "c", of("b", "requires c"), of("c", "after b"), of("c"))
	// What isn't there is told ahead of circles, though what makes the circle is less.
	refused(t, "what isn't there, and a circle", api.ErrNeeds, "b", lacking, round)
	refused(t, "what isn't there, in a circle", api.ErrNeeds, "c", of("a", "after b"), of("b", "after a"), of("c", "partof x", "before a", "after a"))
	refused(t, "of one unit", api.ErrNeeds, "c", of("c", "requires c x"))
}

func TestOrderOfPlaces(t *testing.T) {
	order(t, "a b c d", of("d"), of("b"), of("a"), of("c"))
	// Byte by byte: what begins with another one comes behind it, whatever the letters mean.
	order(t, "- . 0 9 A _ a a- a. a0 aa b \xff", of("b"), of("\xff"), of("a0"), of("a"), of("_"), of("a."), of("aa"), of("a-"), of("9"), of("0"), of("."), of("-"), of("A"))
	// What was placed makes a lesser one the next.
	order(t, "b a c", of("a", "after b"), of("b"), of("c"))
	order(t, "c b a d", of("a", "after b"), of("b", "requires c"), of("c"), of("d"))
	order(t, "b c a d", of("a", "after c b"), of("b"), of("c"), of("d"))
	order(t, "d a e b c", of("a", "after d"), of("b", "after e"), of("c", "after b"), of("d"), of("e"))
	order(t, "b z a c", of("a"), of("b"), of("c", "after z"), of("z", "before a"))
	order(t, "z a b c", of("z", "before a b c"), of("a"), of("b"), of("c"))
	// One that waits for two waits for both.
	order(t, "b c d a e", of("a", "after b", "requires d"), of("b"), of("c", "before d"), of("d"), of("e"))
	// Not all of one rank ahead of all of the next one.
	order(t, "b a d c e", of("a", "after b"), of("b"), of("c", "after d"), of("d"), of("e"))
}

func TestOrderOfNames(t *testing.T) {
	g := made(t, of("a", "after c"), of("b"), of("c", "requires d"), of("d"), of("e", "before b"))
	for names, want := range map[string]string{
		"": "", "a": "a", "a b c d e": "d c a e b", "e d c b a": "d c a e b",
		"a d": "d a", "b e": "e b", "c a b": "c a b", "b a": "a b",
		"a a a": "a", "a d a d a": "d a", "x": "", "x y x": "", "x a y d": "d a", "aa a-": "",
	} {
		told(t, "Order of "+names, g.Order(strings.Fields(names)...), want)
	}
	told(t, "Order of nothing", g.Order(), "")
	told(t, "Order of an empty name", g.Order("", "a"), "a")
}

func TestBehind(t *testing.T) {
	g := made(t,
		of("a", "after c c b", "requires b d b d"), of("b", "before a a"), of("c", "before a"),
		of("d"), of("e", "before a"), of("f", "after a", "wants d", "partof d"), of("g", "wants a", "partof b"),
	)
	told(t, "of one that says the same twice, in several lists, and of whom others do", g.Behind("a"), "b c d e")
	told(t, "of the others", slices.Concat(g.Behind("b"), g.Behind("c"), g.Behind("d"), g.Behind("e"), g.Behind("g")), "")
	// Right behind is one step, and no more.
	told(t, "of one that stands behind it", g.Behind("f"), "a")
	told(t, "of one that isn't there", g.Behind("x"), "")
	told(t, "of an empty name", g.Behind(""), "")
	g = made(t, of("a", "after z y x w"), of("w"), of("x"), of("y"), of("z"), of("v", "before a"))
	told(t, "in order", g.Behind("a"), "v w x y z")
}

func TestLean(t *testing.T) {
	g := made(t,
		of("a", "requires b"), of("b", "partof c"), of("c", "requires d", "partof d"), of("d"),
		of("e", "wants d", "after d"), of("f", "before d"), of("g", "partof a e"), of("h", "requires e", "after a"),
	)
	for names, want := range map[string]string{
		"": "", "a": "a g", "b": "a b g", "c": "a b c g", "d": "a b c d g",
		"e": "e g h", "f": "f", "g": "g", "h": "h", "h e": "e g h", "d e": "a b c d e g h",
		"b b": "a b g", "b a b a": "a b g", "x": "", "x b y": "a b g", "f h a": "a f g h",
	} {
		told(t, "Lean of "+names, g.Lean(strings.Fields(names)...), want)
	}
	told(t, "Lean of nothing", g.Lean(), "")
	// By the one list, by the other, and by both; what is wanted, and what stands behind, leans not.
	told(t, "by Requires", made(t, of("a"), of("b", "requires a")).Lean("a"), "a b")
	told(t, "by PartOf", made(t, of("a"), of("b", "partof a")).Lean("a"), "a b")
	told(t, "by both", made(t, of("a"), of("b", "partof a", "requires a"), of("c", "partof b", "requires a")).Lean("a"), "a b c")
	told(t, "by neither", made(t, of("a", "before c"), of("b", "wants a"), of("c"), of("d", "after a")).Lean("a"), "a")
	// It goes one way alone.
	told(t, "of what leans", made(t, of("a"), of("b", "partof a", "requires a")).Lean("b"), "b")
	// What leans may be less, or more, than that on which it does.
	told(t, "to and fro", made(t, of("a", "requires z"), of("z", "partof b"), of("b", "requires y"), of("y"), of("m")).Lean("y"), "a b y z")
}

func TestPull(t *testing.T) {
	g := made(t,
		of("a", "requires b c"), of("b", "requires d"), of("c", "requires d"), of("d"),
		of("e", "wants a", "after a", "partof a"), of("f", "after a", "requires e"),
	)
	for names, want := range map[string]string{
		"": "", "a": "a b c d", "b": "b d", "c": "c d", "d": "d", "e": "e", "f": "e f",
		"f b": "b d e f", "b c": "b c d", "c b c b": "b c d", "d a d": "a b c d", "x": "", "x y c x": "c d",
	} {
		told(t, "Pull of "+names, g.Pull(strings.Fields(names)...), want)
	}
	told(t, "Pull of nothing", g.Pull(), "")
	// By Requires alone.
	told(t, "by no other list", made(t, of("a", "after b", "before c", "wants d", "partof e"), of("b"), of("c"), of("d"), of("e")).Pull("a"), "a")
	// By more steps, and not the other way.
	g = made(t, of("a", "requires z"), of("z", "requires b"), of("b", "requires y"), of("y"), of("m", "requires a"))
	told(t, "by more steps", g.Pull("a"), "a b y z")
	told(t, "of what is required", g.Pull("y"), "y")
}

func TestGet(t *testing.T) {
	whole := of("a", "after b x", "before c c", "requires b b", "wants y", "partof c b", "file /lib/a /lib/a")
	whole.Retry = 3
	g := made(t, whole, of("b"), of("c"), unit.Unit{Name: "d"}, unit.Unit{})
	for _, want := range []unit.Unit{whole, of("b"), {Name: "d"}, {}} {
		if u, ok := g.Get(want.Name); !ok || !same(u, want) {
			t.Errorf("%q: %v, %v", want.Name, u, ok)
		}
	}
	for _, n := range []string{"x", "y", "A", "a ", "aa"} {
		if u, ok := g.Get(n); ok || !same(u, unit.Unit{}) {
			t.Errorf("%q: %v, %v", n, u, ok)
		}
	}
	if u, ok := made(t, of("a")).Get(""); ok || !same(u, unit.Unit{}) {
		t.Errorf("there is %v", u)
	}
}

// spoil turns all that a list has, also behind its end.
func spoil(list []string) {
	for i := range list[:cap(list)] {
		list[:cap(list)][i] = "c"
	}
}

func TestNothingIsShared(t *testing.T) {
	whole := func() []unit.Unit {
		return []unit.Unit{
			of("a", "after b", "before d", "requires b", "wants b", "partof b", "file /lib/a"), of("b"), of("c", "requires a", "partof b"), of("d", "requires a"),
		}
	}
	names := func() [][]string { return [][]string{{"d", "a"}, {"b"}, {"x", "b", "c", "b"}} }
	in := whole()
	g, e, _ := graph.New(in...)
	if e != api.OK {
		t.Fatalf("error %d", e)
	}
	asked(t, "ahead", g, whole(), names()...)
	for i := range in {
		if !same(in[i], whole()[i]) {
			t.Errorf("%v was turned", in[i])
		}
		for _, list := range lists(&in[i]) {
			spoil(*list)
		}
		in[i] = of("x")
	}
	asked(t, "as what was handed in is turned", g, whole(), names()...)
	for _, list := range names() {
		again := slices.Clone(list)
		got := [][]string{g.Order(list...), g.Lean(list...), g.Pull(list...), g.Behind(list[0]), g.Names()}
		if !slices.Equal(list, again) {
			t.Errorf("%q was turned to %q", again, list)
		}
		spoil(list)
		for _, one := range got {
			spoil(one)
		}
	}
	for _, n := range g.Names() {
		u, _ := g.Get(n)
		for _, list := range lists(&u) {
			spoil(*list)
		}
		u.Name, u.Retry = "x", 9
		spoil(g.Behind(n))
	}
	asked(t, "as what was told is turned", g, whole(), names()...)
}

func TestListsOfOneUnitAreApart(t *testing.T) {
	row := []string{"b", "b", "b"}
	u := unit.Unit{Name: "a", Files: row, After: row, Requires: row[:2], Wants: row[1:], PartOf: row, Before: row[:0]}
	g, e, n := graph.New(u, of("b"))
	if e != api.OK || n != "" {
		t.Fatalf("error %d of %q", e, n)
	}
	got, _ := g.Get("a")
	for word, list := range lists(&got) {
		spoil(*list)
		again, _ := g.Get("a")
		if !same(again, u) {
			t.Errorf("as %s is turned, the unit is %v", word, again)
		}
		for other, beside := range lists(&got) {
			if other != word && !slices.Equal(*beside, *lists(&u)[other]) {
				t.Errorf("as %s is turned, %s is %q", word, other, *beside)
			}
		}
		got, _ = g.Get("a")
	}
	if !slices.Equal(row, []string{"b", "b", "b"}) {
		t.Errorf("what was handed in is %q", row)
	}
}

func TestGraphsAreApart(t *testing.T) {
	units := []unit.Unit{of("a", "requires b"), of("b")}
	one := made(t, units...)
	units[0], units[1] = of("a"), of("b", "requires a")
	two := made(t, units...)
	told(t, "the one", one.Order("a", "b"), "b a")
	told(t, "the other", two.Order("a", "b"), "a b")
	refused(t, "a third", api.ErrCycle, "a", of("a", "requires b"), of("b", "requires a"))
	told(t, "the one", one.Lean("b"), "a b")
	told(t, "the other", two.Lean("b"), "b")
}
