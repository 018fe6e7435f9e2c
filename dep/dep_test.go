package dep_test

import (
	"bytes"
	"fmt"
	"math/rand"
	"slices"
	"strings"
	"testing"

	"farrier/api"
	"farrier/arc"
	"farrier/base"
	"farrier/dep"
	"farrier/ver"
)

// pkg is a package with nothing in it; owner, needing, against such ones with files, needs and conflicts.
func pkg(name, version string) arc.Pkg { return arc.Pkg{Name: name, Version: version} }

func owner(name string, paths ...string) arc.Pkg {
	p := pkg(name, "1")
	for _, s := range paths {
		p.Files = append(p.Files, arc.File{Path: s})
	}
	return p
}

func needing(name string, needs ...arc.Need) arc.Pkg {
	p := pkg(name, "1")
	p.Needs = needs
	return p
}

func against(name string, conflicts ...string) arc.Pkg {
	p := pkg(name, "1")
	p.Conflicts = conflicts
	return p
}

// of is the base of some packages, many so many packages with nothing in them.
func of(list ...arc.Pkg) base.Base {
	var b base.Base
	for _, p := range list {
		b = b.With(base.Of(p))
	}
	return b
}

func many(n int) []arc.Pkg {
	var list []arc.Pkg
	for i := range n {
		list = append(list, pkg(fmt.Sprint("p", i), "1"))
	}
	return list
}

func come(list ...arc.Pkg) dep.Change { return dep.Change{Come: list} }

func gone(names ...string) dep.Change { return dep.Change{Go: names} }

// checked holds Check to tell a fault of packages, in whichever order they came, and After, too, as the last of them comes to the others.
func checked(t *testing.T, what string, want dep.Fault, list ...arc.Pkg) {
	t.Helper()
	if got := dep.Check(of(list...)); got != want {
		t.Errorf("%s: %v, not %v", what, got, want)
	}
	turned := slices.Clone(list)
	slices.Reverse(turned)
	if got := dep.Check(of(turned...)); got != want {
		t.Errorf("%s, turned round: %v, not %v", what, got, want)
	}
	for i, p := range list {
		if !arc.Right(p) {
			continue
		}
		others := of(slices.Delete(slices.Clone(list), i, i+1)...)
		b, got := dep.After(others, come(p))
		if got != want {
			t.Errorf("%s, as %s comes: %v, not %v", what, p.Name, got, want)
		}
		if whole := of(list...); want.E == api.OK && !base.Same(b, whole) || want.E != api.OK && !base.Same(b, base.Base{}) {
			t.Errorf("%s, as %s comes: there is %v", what, p.Name, b)
		}
	}
}

func TestExampleOfANeed(t *testing.T) {
	a := needing("a", arc.Need{Name: "b", Way: ver.Least, Ver: "2"})
	unmet := dep.Fault{E: api.ErrNeeds, Name: "a", What: "b"}
	if b, f := dep.After(base.Base{}, come(a)); f != unmet || len(b.Names()) != 0 {
		t.Errorf("alone: %v, fault %v", b, f)
	}
	both, f := dep.After(base.Base{}, come(a, pkg("b", "2")))
	if f != (dep.Fault{}) || strings.Join(both.Names(), " ") != "a b" {
		t.Errorf("beside b: %v, fault %v", both, f)
	}
	if b, f := dep.After(both, gone("b")); f != unmet || len(b.Names()) != 0 {
		t.Errorf("as b goes: %v, fault %v", b, f)
	}
}

func TestNothingIsWrong(t *testing.T) {
	checked(t, "nothing", dep.Fault{})
	checked(t, "packages with nothing in them", dep.Fault{}, many(3)...)
}

func TestAsManyPackagesAsThereMayBe(t *testing.T) {
	for n := 1; n < 40; n++ {
		want, left := dep.Fault{}, n
		if n > 24 {
			want, left = dep.Fault{E: api.ErrFull}, 0
		}
		if got := dep.Check(of(many(n)...)); got != want {
			t.Errorf("of %d packages: %v", n, got)
		}
		if b, got := asked(t, "packages come", base.Base{}, come(many(n)...)); got != want || len(b.Names()) != left {
			t.Errorf("as %d packages come: %v, fault %v", n, b, got)
		}
	}
	full := of(many(24)...)
	fault := dep.Fault{E: api.ErrFull}
	for what, c := range map[string]struct {
		change dep.Change
		want   dep.Fault
		n      int
	}{
		"one more":                            {come(pkg("x", "1")), fault, 0},
		"one more that has more wrong":        {come(needing("a", arc.Need{Name: "no"})), fault, 0},
		"one more, and one goes":              {dep.Change{Come: []arc.Pkg{pkg("x", "1")}, Go: []string{"p0"}}, dep.Fault{}, 24},
		"two more, and one goes":              {dep.Change{Come: []arc.Pkg{pkg("x", "1"), pkg("y", "1")}, Go: []string{"p0"}}, fault, 0},
		"one that is there":                   {come(pkg("p5", "2")), dep.Fault{}, 24},
		"one goes":                            {gone("p23"), dep.Fault{}, 23},
		"all that there are, in newer ones":   {come(newer(24)...), dep.Fault{}, 24},
		"all that there are go":               {gone(full.Names()...), dep.Fault{}, 0},
		"all go, and as many others come":     {dep.Change{Come: others(24), Go: full.Names()}, dep.Fault{}, 24},
		"all go, and as many and one do come": {dep.Change{Come: others(25), Go: full.Names()}, fault, 0},
	} {
		if b, f := asked(t, what, full, c.change); f != c.want || len(b.Names()) != c.n {
			t.Errorf("%s: %d packages, fault %v", what, len(b.Names()), f)
		}
	}
	over := of(append(many(25), needing("a", arc.Need{Name: "no"}))...)
	if b, f := asked(t, "too many stay too many", over, gone("p1")); f != fault || len(b.Names()) != 0 {
		t.Errorf("too many stay too many: %v, fault %v", b, f)
	}
	if b, f := asked(t, "too many aren't any more", over, gone("p1", "a")); f != (dep.Fault{}) || len(b.Names()) != 24 {
		t.Errorf("too many aren't any more: %v, fault %v", b, f)
	}
}

// newer is so many packages, newer than those of many; others, so many of other names.
func newer(n int) []arc.Pkg {
	list := many(n)
	for i := range list {
		list[i].Version = "2"
	}
	return list
}

func others(n int) []arc.Pkg {
	list := many(n)
	for i := range list {
		list[i].Name = fmt.Sprint("q", i)
	}
	return list
}

func TestNeedsByEachWay(t *testing.T) {
	for way := ver.Any; way <= ver.Below; way++ {
		for _, than := range versions {
			n := arc.Need{Name: "b", Way: way, Ver: than}
			if way == ver.Any {
				n.Ver = ""
			}
			for _, v := range versions {
				want := dep.Fault{}
				if !fits(v, n) {
					want = dep.Fault{E: api.ErrNeeds, Name: "a", What: "b"}
				}
				checked(t, fmt.Sprint("the need ", n, " of the version ", v), want, needing("a", n), pkg("b", v))
			}
			checked(t, fmt.Sprint("the need ", n, " of what isn't there"), dep.Fault{E: api.ErrNeeds, Name: "a", What: "b"}, needing("a", n), pkg("c", "1"))
		}
	}
}

func TestNeedsOfVersions(t *testing.T) {
	unmet := dep.Fault{E: api.ErrNeeds, Name: "a", What: "b"}
	for what, c := range map[string]struct {
		needs []arc.Need
		have  string
		want  dep.Fault
	}{
		"just so":                    {[]arc.Need{{Name: "b", Way: ver.Least, Ver: "2"}}, "2", dep.Fault{}},
		"too old":                    {[]arc.Need{{Name: "b", Way: ver.Least, Ver: "2"}}, "1.9999", unmet},
		"newer":                      {[]arc.Need{{Name: "b", Way: ver.Least, Ver: "2"}}, "2-1", dep.Fault{}},
		"just another one":           {[]arc.Need{{Name: "b", Way: ver.Just, Ver: "2"}}, "2-1", unmet},
		"too new":                    {[]arc.Need{{Name: "b", Way: ver.Below, Ver: "2"}}, "2", unmet},
		"from one on, and below one": {[]arc.Need{{Name: "b", Way: ver.Least, Ver: "2"}, {Name: "b", Way: ver.Below, Ver: "3"}}, "2.5", dep.Fault{}},
		"not below it":               {[]arc.Need{{Name: "b", Way: ver.Least, Ver: "2"}, {Name: "b", Way: ver.Below, Ver: "3"}}, "3", unmet},
		"not from it on":             {[]arc.Need{{Name: "b", Way: ver.Below, Ver: "3"}, {Name: "b", Way: ver.Least, Ver: "2"}}, "1", unmet},
		"what can't be":              {[]arc.Need{{Name: "b", Way: ver.Just, Ver: "2"}, {Name: "b", Way: ver.Just, Ver: "3"}}, "2", unmet},
		"no version, any":            {[]arc.Need{{Name: "b"}}, "x", unmet},
		"no version, below":          {[]arc.Need{{Name: "b", Way: ver.Below, Ver: "1"}}, "", unmet},
		"no such way":                {[]arc.Need{{Name: "b", Way: 4, Ver: "1"}}, "1", unmet},
	} {
		checked(t, what, c.want, needing("a", c.needs...), pkg("b", c.have))
	}
}

func TestNeedOfItsOwnName(t *testing.T) {
	own := dep.Fault{E: api.ErrNeeds, Name: "a", What: "a"}
	checked(t, "any", dep.Fault{}, needing("a", arc.Need{Name: "a"}))
	checked(t, "just so", dep.Fault{}, needing("a", arc.Need{Name: "a", Way: ver.Just, Ver: "1"}))
	checked(t, "newer", own, needing("a", arc.Need{Name: "a", Way: ver.Least, Ver: "1-1"}))
	checked(t, "older", own, needing("a", arc.Need{Name: "a", Way: ver.Below, Ver: "1"}))
	// The need is of the version that comes, not of the one that is there.
	a := needing("a", arc.Need{Name: "a", Way: ver.Below, Ver: "2"})
	a.Version = "2"
	if b, f := asked(t, "older than itself", of(pkg("a", "1")), come(a)); f != own || len(b.Names()) != 0 {
		t.Errorf("older than itself: %v, fault %v", b, f)
	}
}

func TestNeedsInARing(t *testing.T) {
	ring := []arc.Pkg{needing("a", arc.Need{Name: "b"}), needing("b", arc.Need{Name: "c"}), needing("c", arc.Need{Name: "a"})}
	checked(t, "a ring", dep.Fault{}, ring...)
	checked(t, "a ring that is open", dep.Fault{E: api.ErrNeeds, Name: "b", What: "c"}, ring[:2]...)
	b, f := asked(t, "a ring comes", base.Base{}, come(ring[2], ring[0], ring[1]))
	if f != (dep.Fault{}) || len(b.Names()) != 3 {
		t.Errorf("a ring comes: %v, fault %v", b, f)
	}
	asked(t, "a part of it goes", b, gone("c", "a"))
	if b, f = asked(t, "the ring goes", b, gone("c", "a", "b")); f != (dep.Fault{}) || len(b.Names()) != 0 {
		t.Errorf("the ring goes: %v, fault %v", b, f)
	}
}

func TestConflictsInEitherOrder(t *testing.T) {
	checked(t, "the first is against the second", dep.Fault{E: api.ErrConflict, Name: "a", What: "b"}, against("a", "b"), pkg("b", "1"))
	checked(t, "the second is against the first", dep.Fault{E: api.ErrConflict, Name: "b", What: "a"}, pkg("a", "1"), against("b", "a"))
	checked(t, "both are", dep.Fault{E: api.ErrConflict, Name: "a", What: "b"}, against("a", "b"), against("b", "a"))
	checked(t, "of several the first that is there", dep.Fault{E: api.ErrConflict, Name: "a", What: "d"}, against("a", "c", "d", "b"), pkg("b", "1"), pkg("d", "1"))
	checked(t, "the last one", dep.Fault{E: api.ErrConflict, Name: "a", What: "h"}, against("a", "i", "j", "k", "l", "m", "n", "o", "h"), pkg("h", "1"))
	checked(t, "none is there", dep.Fault{}, against("a", "b", "c"), against("d", "b", "c", "aa"))
	checked(t, "whichever version", dep.Fault{E: api.ErrConflict, Name: "a", What: "b"}, against("a", "b"), pkg("b", "x"))
	checked(t, "what is needed, too", dep.Fault{E: api.ErrConflict, Name: "a", What: "b"}, arc.Pkg{Name: "a", Version: "1", Needs: []arc.Need{{Name: "b"}}, Conflicts: []string{"b"}}, pkg("b", "1"))
	if b, f := asked(t, "the other one goes", of(pkg("b", "1")), dep.Change{Come: []arc.Pkg{against("a", "b")}, Go: []string{"b"}}); f != (dep.Fault{}) || len(b.Names()) != 1 {
		t.Errorf("the other one goes: %v, fault %v", b, f)
	}
}

func TestOwnersOfFiles(t *testing.T) {
	wrong := func(name, p string) dep.Fault { return dep.Fault{E: api.ErrOwner, Name: name, What: p} }
	for _, c := range []struct {
		what string
		want dep.Fault
		list []arc.Pkg
	}{
		{"other files", dep.Fault{}, []arc.Pkg{owner("a", "/bin/a", "/bin/c"), owner("b", "/bin/b", "/bin/d")}},
		{"the same file", wrong("b", "/f"), []arc.Pkg{owner("a", "/f"), owner("b", "/f")}},
		{"the same file behind others", wrong("b", "/f"), []arc.Pkg{owner("a", "/a", "/b", "/f"), owner("b", "/c", "/f", "/z")}},
		{"the same file of three", wrong("b", "/f"), []arc.Pkg{owner("a", "/f"), owner("b", "/f"), owner("c", "/f")}},
		{"of two files the first", wrong("b", "/f"), []arc.Pkg{owner("a", "/f", "/g"), owner("b", "/f", "/g")}},
		{"of two packages the first", wrong("b", "/g"), []arc.Pkg{owner("a", "/f", "/g"), owner("b", "/g"), owner("c", "/f")}},
		{"within another one's", wrong("b", "/f/g"), []arc.Pkg{owner("a", "/f"), owner("b", "/f/g")}},
		{"within one of a later package", wrong("a", "/f/g"), []arc.Pkg{owner("a", "/f/g"), owner("b", "/f")}},
		{"deep within it", wrong("b", "/f/b/c/d/e"), []arc.Pkg{owner("a", "/f"), owner("b", "/f/b/c/d/e")}},
		{"two names deep", wrong("a", "/f/g/h"), []arc.Pkg{owner("a", "/f/g/h"), owner("b", "/f/g")}},
		{"within one of its own", wrong("a", "/f/g"), []arc.Pkg{owner("a", "/f", "/f/g")}},
		{"within one of its own behind it", wrong("a", "/f/g"), []arc.Pkg{owner("a", "/f/g", "/f")}},
		{"names that begin alike", dep.Fault{}, []arc.Pkg{owner("a", "/f", "/g/h"), owner("b", "/f-", "/f.g", "/ff/g", "/g/h-/f", "/g/hh")}},
		{"a file within another directory of that name", dep.Fault{}, []arc.Pkg{owner("a", "/f"), owner("b", "/g/f/h")}},
		{"the same one twice", dep.Fault{}, []arc.Pkg{owner("a", "/f", "/f")}},
		{"twice, and another one's", wrong("b", "/f"), []arc.Pkg{owner("a", "/f"), owner("b", "/f", "/f")}},
		{"within the root's", wrong("a", "/f"), []arc.Pkg{owner("a", "/f"), owner("b", "/")}},
		{"the root's within none", wrong("b", "/"), []arc.Pkg{owner("a", "/"), owner("b", "/")}},
		{"no paths", dep.Fault{}, []arc.Pkg{owner("a", "", "f", "/f/", "/F", "/a/b/c/d/e"), owner("b", "f/g", "/f//g", "/F/g", "/a/b/c/d/e/f")}},
		{"what is no path, of two", wrong("b", "f"), []arc.Pkg{owner("a", "f"), owner("b", "f")}},
		{"no path of two", wrong("b", ""), []arc.Pkg{owner("a", ""), owner("b", "")}},
	} {
		checked(t, c.what, c.want, c.list...)
	}
}

func TestOwnersOfWhatComesAndGoes(t *testing.T) {
	for what, c := range map[string]struct {
		b      base.Base
		change dep.Change
		want   dep.Fault
	}{
		"it goes from one that goes":         {of(owner("a", "/f")), dep.Change{Come: []arc.Pkg{owner("b", "/f")}, Go: []string{"a"}}, dep.Fault{}},
		"it goes from one that is replaced":  {of(owner("a", "/f")), come(pkg("a", "2"), owner("b", "/f")), dep.Fault{}},
		"it doesn't go":                      {of(owner("a", "/f")), come(owner("b", "/f")), dep.Fault{E: api.ErrOwner, Name: "b", What: "/f"}},
		"it is within one that goes":         {of(owner("a", "/f")), dep.Change{Come: []arc.Pkg{owner("b", "/f/g")}, Go: []string{"a"}}, dep.Fault{}},
		"a package of that name has it anew": {of(owner("a", "/f")), come(arc.Pkg{Name: "a", Version: "2", Files: []arc.File{{Path: "/f"}}}), dep.Fault{}},
		"a file where a directory was":       {of(owner("a", "/f/g")), come(arc.Pkg{Name: "a", Version: "2", Files: []arc.File{{Path: "/f"}}}), dep.Fault{}},
	} {
		if _, f := asked(t, what, c.b, c.change); f != c.want {
			t.Errorf("%s: %v", what, f)
		}
	}
}

func TestWhichOfSeveralFaultsIsTold(t *testing.T) {
	all := func(name string) arc.Pkg {
		return arc.Pkg{Name: name, Version: "1", Needs: []arc.Need{{Name: "b"}, {Name: "no"}, {Name: "never"}}, Conflicts: []string{"absent", "x", "b"}, Files: []arc.File{{Path: "/f"}, {Path: "/f/g"}}}
	}
	files := func(p arc.Pkg) arc.Pkg {
		p.Needs, p.Conflicts = nil, nil
		return p
	}
	conflicts := func(p arc.Pkg) arc.Pkg {
		p.Needs = nil
		return p
	}
	b, x := pkg("b", "1"), pkg("x", "1")
	checked(t, "of needs the first one", dep.Fault{E: api.ErrNeeds, Name: "c", What: "no"}, all("c"), b, x)
	checked(t, "of all packages the first one", dep.Fault{E: api.ErrNeeds, Name: "a", What: "no"}, all("a"), all("c"), b, x)
	checked(t, "of conflicts the first one", dep.Fault{E: api.ErrConflict, Name: "c", What: "x"}, conflicts(all("c")), b, x)
	checked(t, "conflicts of one ahead of needs of the next", dep.Fault{E: api.ErrConflict, Name: "a", What: "x"}, conflicts(all("a")), all("c"), b, x)
	checked(t, "needs of one ahead of conflicts of the next", dep.Fault{E: api.ErrNeeds, Name: "a", What: "no"}, all("a"), conflicts(all("c")), b, x)
	checked(t, "files behind needs of others", dep.Fault{E: api.ErrNeeds, Name: "y", What: "no"}, files(all("a")), all("y"), b, x)
	checked(t, "files behind conflicts of others", dep.Fault{E: api.ErrConflict, Name: "y", What: "x"}, files(all("a")), conflicts(all("y")), b, x)
	checked(t, "of files the first one", dep.Fault{E: api.ErrOwner, Name: "a", What: "/f/g"}, files(all("a")), files(all("c")), b, x)
	checked(t, "names are in order byte by byte", dep.Fault{E: api.ErrNeeds, Name: "-", What: "no"}, needing("10", arc.Need{Name: "no"}), needing("9", arc.Need{Name: "no"}), needing("-", arc.Need{Name: "no"}), needing("a", arc.Need{Name: "no"}))
}

func TestChangeOfNothing(t *testing.T) {
	for _, b := range []base.Base{{}, of(pkg("a", "1")), of(needing("a", arc.Need{Name: "no"})), of(many(30)...)} {
		for _, c := range []dep.Change{{}, {Come: []arc.Pkg{}, Go: []string{}}} {
			if got, f := asked(t, "nothing", b, c); f != (dep.Fault{E: api.ErrArg}) || len(got.Names()) != 0 {
				t.Errorf("nothing: %v, fault %v", got, f)
			}
		}
	}
}

func TestWhatComesAndIsNotRight(t *testing.T) {
	for _, p := range []arc.Pkg{
		{}, {Name: "a"}, pkg("", "1"), pkg("A", "1"), pkg("abcdefghijklm", "1"), pkg("a", "01"), against("a", "a"), owner("a", "/b", "/a"), owner("a", "/a", "/a/b"), owner("a", "/var/f"), needing("a", arc.Need{Name: "b", Ver: "1"}),
		{Name: "a", Version: "1", Files: []arc.File{{Path: "/f", Data: make([]byte, 513)}}}, {Name: "a", Version: "1", Units: make([]string, 5)},
	} {
		want := dep.Fault{E: api.ErrForm, Name: p.Name}
		for what, list := range map[string][]arc.Pkg{
			"alone": {p}, "ahead of others": {p, pkg("b", "1"), pkg("b", "1")}, "behind others": {pkg("c", "1"), p}, "twice": {p, p},
			"behind one of its name": {pkg("a", "3"), p},
		} {
			for _, there := range []base.Base{{}, of(pkg("a", "2"))} {
				if b, f := asked(t, what, there, come(list...)); f != want || len(b.Names()) != 0 {
					t.Errorf("%s: %v, fault %v; not %v", what, b, f, want)
				}
			}
		}
	}
	if _, f := asked(t, "ahead of it one is too old", of(pkg("a", "2")), come(pkg("a", "1"), arc.Pkg{})); f != (dep.Fault{E: api.ErrVersion, Name: "a", What: "2"}) {
		t.Errorf("ahead of it one is too old: %v", f)
	}
}

func TestWhatComesTwiceOrIsThere(t *testing.T) {
	there := of(pkg("a", "1.2-3"), pkg("b", "1"))
	for what, c := range map[string]struct {
		list []arc.Pkg
		want dep.Fault
	}{
		"twice":                            {[]arc.Pkg{pkg("c", "1"), pkg("c", "1")}, dep.Fault{E: api.ErrTwice, Name: "c"}},
		"twice, the second newer":          {[]arc.Pkg{pkg("c", "1"), pkg("d", "1"), pkg("c", "2")}, dep.Fault{E: api.ErrTwice, Name: "c"}},
		"twice, the second as old":         {[]arc.Pkg{pkg("a", "2"), pkg("a", "1.2-3")}, dep.Fault{E: api.ErrTwice, Name: "a"}},
		"as old":                           {[]arc.Pkg{pkg("a", "1.2-3")}, dep.Fault{E: api.ErrVersion, Name: "a", What: "1.2-3"}},
		"older":                            {[]arc.Pkg{pkg("a", "1.2-2")}, dep.Fault{E: api.ErrVersion, Name: "a", What: "1.2-3"}},
		"much older":                       {[]arc.Pkg{pkg("c", "1"), pkg("a", "0")}, dep.Fault{E: api.ErrVersion, Name: "a", What: "1.2-3"}},
		"older, ahead of one twice":        {[]arc.Pkg{pkg("a", "1"), pkg("c", "1"), pkg("c", "1")}, dep.Fault{E: api.ErrVersion, Name: "a", What: "1.2-3"}},
		"older, behind one twice":          {[]arc.Pkg{pkg("c", "1"), pkg("c", "1"), pkg("a", "1")}, dep.Fault{E: api.ErrTwice, Name: "c"}},
		"newer":                            {[]arc.Pkg{pkg("a", "1.2-10")}, dep.Fault{}},
		"newer, with more numbers":         {[]arc.Pkg{pkg("a", "1.2.0"), pkg("b", "1.0")}, dep.Fault{}},
		"not there":                        {[]arc.Pkg{pkg("c", "0")}, dep.Fault{}},
		"in the order in which they come":  {[]arc.Pkg{pkg("b", "1"), pkg("a", "1")}, dep.Fault{E: api.ErrVersion, Name: "b", What: "1"}},
		"ahead of what there would be":     {[]arc.Pkg{needing("c", arc.Need{Name: "no"}), pkg("b", "0")}, dep.Fault{E: api.ErrVersion, Name: "b", What: "1"}},
		"and what there would be is wrong": {[]arc.Pkg{needing("c", arc.Need{Name: "no"}), pkg("b", "2")}, dep.Fault{E: api.ErrNeeds, Name: "c", What: "no"}},
	} {
		b, f := dep.After(there, come(c.list...))
		if f != c.want {
			t.Errorf("%s: %v, not %v", what, f, c.want)
		}
		if c.want.E != api.OK {
			if len(b.Names()) != 0 {
				t.Errorf("%s: there is %v", what, b)
			}
			continue
		}
		for _, p := range c.list {
			if e, ok := b.Get(p.Name); !ok || e.Version != p.Version {
				t.Errorf("%s: %s is %v, %v", what, p.Name, e, ok)
			}
		}
	}
	// What is there, and has no version, is older than all that have one.
	if b, f := dep.After(of(pkg("a", "x")), come(pkg("a", "0"))); f != (dep.Fault{}) || len(b.Names()) != 1 {
		t.Errorf("one without a version: %v, fault %v", b, f)
	}
}

func TestWhatGoes(t *testing.T) {
	there := of(pkg("a", "1"), pkg("b", "1"), owner("c", "/f"))
	for what, c := range map[string]struct {
		change dep.Change
		want   dep.Fault
		left   string
	}{
		"one":                             {gone("b"), dep.Fault{}, "a c"},
		"several":                         {gone("c", "a"), dep.Fault{}, "b"},
		"all":                             {gone("b", "a", "c"), dep.Fault{}, ""},
		"one that isn't there":            {gone("d"), dep.Fault{E: api.ErrNone, Name: "d"}, ""},
		"no name":                         {gone(""), dep.Fault{E: api.ErrNone}, ""},
		"one that is, one that isn't":     {gone("a", "aa"), dep.Fault{E: api.ErrNone, Name: "aa"}, ""},
		"one twice":                       {gone("a", "b", "a"), dep.Fault{E: api.ErrTwice, Name: "a"}, ""},
		"one that isn't there twice":      {gone("d", "d"), dep.Fault{E: api.ErrNone, Name: "d"}, ""},
		"one twice ahead of one not here": {gone("a", "a", "d"), dep.Fault{E: api.ErrTwice, Name: "a"}, ""},
		"one that came":                   {dep.Change{Come: []arc.Pkg{pkg("d", "1")}, Go: []string{"d"}}, dep.Fault{E: api.ErrTwice, Name: "d"}, ""},
		"one that came, and was there":    {dep.Change{Come: []arc.Pkg{pkg("a", "2")}, Go: []string{"b", "a"}}, dep.Fault{E: api.ErrTwice, Name: "a"}, ""},
		"what comes is looked at ahead":   {dep.Change{Come: []arc.Pkg{pkg("a", "1")}, Go: []string{"d"}}, dep.Fault{E: api.ErrVersion, Name: "a", What: "1"}, ""},
		"one, and another comes":          {dep.Change{Come: []arc.Pkg{pkg("d", "1"), pkg("b", "2")}, Go: []string{"a"}}, dep.Fault{}, "b c d"},
	} {
		b, f := asked(t, what, there, c.change)
		if got := strings.Join(b.Names(), " "); f != c.want || got != c.left {
			t.Errorf("%s: %s, fault %v", what, got, f)
		}
	}
}

func TestWhatThereIsIsAsItCame(t *testing.T) {
	p := arc.Pkg{
		Name: "a", Version: "2", Needs: []arc.Need{{Name: "b", Way: ver.Least, Ver: "1"}}, Conflicts: []string{"c"},
		Files: []arc.File{{Path: "/f", Config: true, Data: []byte("123456789")}}, Units: []string{"unit a\n", ""},
	}
	c := dep.Change{Come: []arc.Pkg{p}, Go: []string{"c"}}
	want := base.New(base.Of(p), base.Of(pkg("b", "1")))
	b, f := asked(t, "one comes, and one goes", of(pkg("a", "1"), pkg("b", "1"), pkg("c", "1")), c)
	if f != (dep.Fault{}) || !base.Same(b, want) {
		t.Errorf("%v, fault %v", b, f)
	}
	p.Needs[0], p.Conflicts[0], p.Files[0], p.Units[0] = arc.Need{}, "x", arc.File{}, "x"
	c.Come[0], c.Go[0] = arc.Pkg{}, "b"
	if !base.Same(b, want) {
		t.Errorf("the change that was turned turned what there is to %v", b)
	}
}

func TestRefusedChangeTurnsNothing(t *testing.T) {
	there := of(needing("a", arc.Need{Name: "b"}), owner("b", "/f"), against("c", "d"))
	rows := there.Pack()
	for what, c := range map[string]dep.Change{
		"nothing": {}, "what isn't right": come(pkg("d", "1"), arc.Pkg{}), "what came twice": come(pkg("d", "1"), pkg("d", "1")),
		"what is as old": come(pkg("d", "1"), pkg("a", "1")), "what isn't there": gone("a", "d"), "what went twice": gone("a", "a"), "what came as well": {Come: []arc.Pkg{pkg("a", "2")}, Go: []string{"a"}},
		"what is needed": gone("b"), "a conflict": come(pkg("d", "1")), "a file of another one": come(owner("e", "/f"), pkg("a", "2")), "too many": come(many(22)...),
	} {
		b, f := dep.After(there, c)
		if f.E == api.OK || !base.Same(b, base.Base{}) {
			t.Errorf("%s: %v, fault %v", what, b, f)
		}
		if !slices.EqualFunc(there.Pack(), rows, bytes.Equal) {
			t.Errorf("%s: what was there is %v", what, there)
		}
	}
	if f := dep.Check(there); f != (dep.Fault{}) {
		t.Errorf("what was there: %v", f)
	}
}

func TestLongLists(t *testing.T) {
	var list []arc.Pkg
	var names []string
	for i := range 20000 {
		names = append(names, fmt.Sprint("n", i))
		list = append(list, pkg(names[i], "1"))
	}
	if b, f := dep.After(base.Base{}, come(list...)); f != (dep.Fault{E: api.ErrFull}) || len(b.Names()) != 0 {
		t.Errorf("many come: fault %v", f)
	}
	if b, f := dep.After(of(pkg("n0", "1")), gone(names...)); f != (dep.Fault{E: api.ErrNone, Name: "n1"}) || len(b.Names()) != 0 {
		t.Errorf("many go: fault %v", f)
	}
	p := owner("a")
	for i := range 2000 {
		p.Needs = append(p.Needs, arc.Need{Name: "a"})
		p.Conflicts = append(p.Conflicts, names[i])
		p.Files = append(p.Files, arc.File{Path: fmt.Sprint("/a/b/c/d/f", i)})
	}
	checked(t, "long lists", dep.Fault{}, p)
}

func TestRandomChanges(t *testing.T) {
	m := maker{rand.New(rand.NewSource(12))}
	told := map[api.Errno]int{}
	var b base.Base
	for range 40000 {
		next, f := asked(t, "a random change", b, m.change())
		told[f.E]++
		if f.E == api.OK {
			b = next
		}
		if len(b.Names()) > 4 || m.seldom(20) {
			b = of(m.pkg())
		}
	}
	for _, e := range []api.Errno{api.OK, api.ErrArg, api.ErrForm, api.ErrTwice, api.ErrVersion, api.ErrNone, api.ErrNeeds, api.ErrConflict, api.ErrOwner} {
		if told[e] < 200 {
			t.Errorf("the error %d was told %d times", e, told[e])
		}
	}
}

func TestRandomPackagesTogether(t *testing.T) {
	m := maker{rand.New(rand.NewSource(13))}
	told := map[api.Errno]int{}
	for range 20000 {
		var list []base.Entry
		for range m.Intn(5) {
			p := m.pkg()
			if slices.Contains(versions, p.Version) {
				list = append(list, base.Of(p))
			}
		}
		if m.seldom(20) {
			list = append(list, entries(of(many(20+m.Intn(8))...))...)
		}
		b := base.New(list...)
		want := check(b)
		told[want.E]++
		if got := dep.Check(b); got != want {
			t.Errorf("%v: %v, not %v", b, got, want)
		}
	}
	for _, e := range []api.Errno{api.OK, api.ErrFull, api.ErrNeeds, api.ErrConflict, api.ErrOwner} {
		if told[e] < 200 {
			t.Errorf("the error %d was told %d times", e, told[e])
		}
	}
}
