package graph_test

import (
	"fmt"
	"math/rand"
	"reflect"
	"slices"
	"sort"
	"testing"

	"farrier/api"
	"farrier/graph"
	"farrier/unit"
)

// plain is a unit, apart, of which a nil list and an empty one are one.
func plain(u unit.Unit) unit.Unit {
	u.Files = append([]string{}, u.Files...)
	u.After = append([]string{}, u.After...)
	u.Before = append([]string{}, u.Before...)
	u.Requires = append([]string{}, u.Requires...)
	u.Wants = append([]string{}, u.Wants...)
	u.PartOf = append([]string{}, u.PartOf...)
	return u
}

func same(a, b unit.Unit) bool { return reflect.DeepEqual(plain(a), plain(b)) }

// model is units, in whichever order; they are told by the chapter's words.
type model []unit.Unit

func (m model) names() []string {
	var names []string
	for _, u := range m {
		names = append(names, u.Name)
	}
	sort.Strings(names)
	return names
}

func (m model) get(n string) (unit.Unit, bool) {
	for _, u := range m {
		if u.Name == n {
			return u, true
		}
	}
	return unit.Unit{}, false
}

// those are the names of units that are there for which something is so, byte by byte in order.
func (m model) those(so func(n string) bool) []string {
	var list []string
	for _, n := range m.names() {
		if so(n) {
			list = append(list, n)
		}
	}
	return list
}

func has(list []string, n string) bool {
	for _, other := range list {
		if other == n {
			return true
		}
	}
	return false
}

// rightBehind tells whether n stands right behind other.
func (m model) rightBehind(n, other string) bool {
	u, ok := m.get(n)
	o, there := m.get(other)
	return ok && there && (has(u.After, other) || has(u.Requires, other) || has(o.Before, n))
}

// steps tells whether one comes from n to other by at least one step from a unit to one of its list.
func (m model) steps(n, other string, list func(unit.Unit) []string) bool {
	seen := map[string]bool{}
	var from func(n string) bool
	from = func(n string) bool {
		u, _ := m.get(n)
		for _, next := range list(u) {
			if next == other {
				return true
			}
			if !seen[next] {
				seen[next] = true
				if from(next) {
					return true
				}
			}
		}
		return false
	}
	return from(n)
}

func required(u unit.Unit) []string { return u.Requires }

func leant(u unit.Unit) []string { return append(append([]string{}, u.Requires...), u.PartOf...) }

// lean and pull are what Lean and Pull should tell.
func (m model) lean(names []string) []string {
	return m.those(func(n string) bool {
		if has(names, n) {
			return true
		}
		for _, other := range names {
			if _, there := m.get(other); there && m.steps(n, other, leant) {
				return true
			}
		}
		return false
	})
}

func (m model) pull(names []string) []string {
	return m.those(func(n string) bool {
		if has(names, n) {
			return true
		}
		for _, other := range names {
			if _, there := m.get(other); there && m.steps(other, n, required) {
				return true
			}
		}
		return false
	})
}

// placed is all that can be placed, in that order, and the rest, byte by byte in order.
func (m model) placed() (order, rest []string) {
	for {
		rest = m.those(func(n string) bool { return !has(order, n) })
		next := m.those(func(n string) bool {
			for _, other := range rest {
				if m.rightBehind(n, other) {
					return false
				}
			}
			return has(rest, n)
		})
		if len(next) == 0 {
			return order, rest
		}
		order = append(order, next[0])
	}
}

func (m model) order(names []string) []string {
	var list []string
	all, _ := m.placed()
	for _, n := range all {
		if has(names, n) {
			list = append(list, n)
		}
	}
	return list
}

// fault is the chapter's error of these units, and the name.
func (m model) fault() (api.Errno, string) {
	if len(m) > 16 {
		return api.ErrMany, ""
	}
	for i, u := range m {
		if _, twice := m[:i].get(u.Name); twice {
			return api.ErrTwice, u.Name
		}
	}
	lacking := m.those(func(n string) bool {
		u, _ := m.get(n)
		for _, other := range leant(u) {
			if _, there := m.get(other); !there {
				return true
			}
		}
		return false
	})
	if len(lacking) > 0 {
		return api.ErrNeeds, lacking[0]
	}
	if _, rest := m.placed(); len(rest) > 0 {
		return api.ErrCycle, rest[0]
	}
	return api.OK, ""
}

// asked holds what a graph tells against the model, of each name by itself, and of some lists of names.
func asked(t *testing.T, what string, g *graph.Graph, m model, lists ...[]string) {
	t.Helper()
	told := func(call string, got, want []string) {
		t.Helper()
		if !slices.Equal(got, want) {
			t.Errorf("%s: %s: %q, not %q", what, call, got, want)
		}
	}
	told("Names", g.Names(), m.names())
	lists = append(slices.Clone(lists), nil, m.names())
	for _, n := range append(m.names(), "nobody", "") {
		u, ok := g.Get(n)
		if want, there := m.get(n); ok != there || !same(u, want) {
			t.Errorf("%s: Get %q: %v, %v, not %v, %v", what, n, u, ok, want, there)
		}
		behind := m.those(func(other string) bool { return m.rightBehind(n, other) })
		told(fmt.Sprintf("Behind %q", n), g.Behind(n), behind)
		lists = append(lists, []string{n})
	}
	for _, names := range lists {
		told(fmt.Sprintf("Order %q", names), g.Order(names...), m.order(names))
		told(fmt.Sprintf("Lean %q", names), g.Lean(names...), m.lean(names))
		told(fmt.Sprintf("Pull %q", names), g.Pull(names...), m.pull(names))
	}
}

// maker makes units by chance.
type maker struct{ *rand.Rand }

// some are up to so many of some names, one of them perhaps twice.
func (m maker) some(most int, of []string) []string {
	var list []string
	for range m.Intn(most + 1) {
		list = append(list, of[m.Intn(len(of))])
	}
	return list
}

// units are so many units with names of a pool, each of whose lists has up to so many; seldom one of them says what makes a fault.
func (m maker) units(n, most int, pool []string) []unit.Unit {
	names := slices.Clone(pool)
	m.Shuffle(len(names), func(i, j int) { names[i], names[j] = names[j], names[i] })
	var list []unit.Unit
	for i := range n {
		u := unit.Unit{Name: names[i], Retry: m.Intn(4), Files: m.some(3, []string{"/a", "/b"})}
		ahead, later := names[:i], names[i+1:n]
		switch m.Intn(60) {
		case 0:
			ahead = names[:n]
		case 1:
			ahead = pool
		}
		if len(ahead) > 0 {
			u.After, u.Requires = m.some(most, ahead), m.some(most, ahead)
		}
		if len(later) > 0 {
			u.Before = m.some(most, later)
		}
		u.PartOf, u.Wants = m.some(most, names[:n]), m.some(most, pool)
		list = append(list, u)
	}
	if m.Intn(30) == 0 {
		list = append(list, list[m.Intn(n)])
	}
	m.Shuffle(len(list), func(i, j int) { list[i], list[j] = list[j], list[i] })
	return list
}

// pool is more names than a graph may have, some of which begin with others, or are none that layer 5 would have.
func pool() []string {
	return []string{"", "a", "a-", "a.", "a0", "aa", "ab", "b", "B", "_", "z", "~", "\xff", "a b", "b-", "c", "d", "e", "f"}
}

func TestRandomUnits(t *testing.T) {
	seen := map[api.Errno]int{}
	for seed := range 4000 {
		m := maker{rand.New(rand.NewSource(int64(seed)))}
		units := m.units(1+m.Intn(17), 1+m.Intn(3), pool())
		g, e, n := graph.New(units...)
		want, name := model(units).fault()
		if seen[want]++; e != want || n != name || (g != nil) != (e == api.OK) {
			t.Fatalf("seed %d: of %v: %v, error %d of %q, not %d of %q", seed, units, g, e, n, want, name)
		}
		if g == nil {
			continue
		}
		asked(t, fmt.Sprint("seed ", seed), g, units, m.some(4, pool()), m.some(9, pool()), m.some(30, pool()))
		if t.Failed() {
			t.Fatalf("of %v", units)
		}
	}
	for _, e := range []api.Errno{api.OK, api.ErrMany, api.ErrTwice, api.ErrNeeds, api.ErrCycle} {
		if seen[e] < 30 {
			t.Errorf("error %d was met %d times alone", e, seen[e])
		}
	}
}

// Small graphs, all of them: three units, of which each pair has one of some links, or none.
func TestAllSmallGraphs(t *testing.T) {
	names := []string{"a", "b", "c"}
	links := []func(u *unit.Unit, n string){
		func(*unit.Unit, string) {},
		func(u *unit.Unit, n string) { u.After = append(u.After, n) },
		func(u *unit.Unit, n string) { u.Before = append(u.Before, n) },
		func(u *unit.Unit, n string) { u.Requires = append(u.Requires, n) },
		func(u *unit.Unit, n string) { u.PartOf = append(u.PartOf, n) },
	}
	for which := range 5 * 5 * 5 * 5 * 5 * 5 {
		units, left := make([]unit.Unit, 3), which
		for i := range units {
			units[i].Name = names[i]
			for j := range names {
				if i != j {
					links[left%5](&units[i], names[j])
					left /= 5
				}
			}
		}
		g, e, n := graph.New(units...)
		want, name := model(units).fault()
		if e != want || n != name || (g != nil) != (e == api.OK) {
			t.Fatalf("of %v: %v, error %d of %q, not %d of %q", units, g, e, n, want, name)
		}
		if g != nil {
			asked(t, fmt.Sprint("of ", units), g, units)
		}
		if t.Failed() {
			return
		}
	}
}
