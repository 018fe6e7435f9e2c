package jobs_test

import (
	"fmt"
	"math/rand"
	"slices"
	"sort"
	"testing"

	"farrier/graph"
	"farrier/jobs"
	"farrier/unit"
)

// maker makes graphs, and lists of names, by chance.
type maker struct{ *rand.Rand }

// some are up to so many of some names, some of them perhaps twice.
func (m maker) some(most int, of []string) []string {
	var list []string
	for range m.Intn(most + 1) {
		if len(of) > 0 {
			list = append(list, of[m.Intn(len(of))])
		}
	}
	return list
}

// graph is a graph of some names in an order by chance, each of which stands behind some ahead of it.
func (m maker) graph(t *testing.T, pool []string) *graph.Graph {
	t.Helper()
	all := slices.Clone(pool)
	m.Shuffle(len(all), func(i, j int) { all[i], all[j] = all[j], all[i] })
	all = all[:m.Intn(len(all)+1)]
	var list []unit.Unit
	for i, n := range all {
		list = append(list, unit.Unit{
			Name: n, After: m.some(1, all[:i]), Before: m.some(1, all[i+1:]), Requires: m.some(1, all[:i]),
			PartOf: m.some(m.Intn(2), all), Wants: m.some(2, pool),
		})
	}
	return made(t, list...)
}

// leans tells by chapter 14's words whether one leans on another one, hits whether it is hit, or leans on one that is.
func leans(g *graph.Graph, n, other string, seen map[string]bool) bool {
	u, _ := g.Get(n)
	for _, next := range slices.Concat(u.Requires, u.PartOf) {
		if next == other {
			return true
		}
		if !seen[next] {
			seen[next] = true
			if leans(g, next, other, seen) {
				return true
			}
		}
	}
	return false
}

func hits(g *graph.Graph, n string, hit []string) bool {
	return slices.ContainsFunc(hit, func(other string) bool { return n == other || leans(g, n, other, map[string]bool{}) })
}

// wanted is the plan by the chapter's words.
func wanted(was, now *graph.Graph, running, hit []string) jobs.Plan {
	var p jobs.Plan
	for _, n := range was.Order(was.Names()...) {
		if slices.Contains(running, n) && hits(was, n, hit) {
			p.Stop = append([]string{n}, p.Stop...)
		}
	}
	for _, n := range now.Order(now.Names()...) {
		if slices.Contains(p.Stop, n) {
			p.Start = append(p.Start, n)
		}
	}
	return p
}

// inPlace tells whether, of a list, each one stands ahead of those right behind which it stands by a graph, or, turned round, behind these.
func inPlace(g *graph.Graph, list []string, round bool) bool {
	for i, n := range list {
		for _, other := range g.Behind(n) {
			if at := slices.Index(list, other); at >= 0 && at < i != round {
				return false
			}
		}
	}
	return true
}

func TestRandomGraphs(t *testing.T) {
	pool := []string{"a", "a-", "aa", "b", "B", "c", "d", "e", "f", ""}
	stopped, started, left := 0, 0, 0
	for seed := range 5000 {
		m := maker{rand.New(rand.NewSource(int64(seed)))}
		was := m.graph(t, pool)
		now := was
		if m.Intn(4) > 0 {
			now = m.graph(t, pool)
		}
		running, hit := m.some(30, pool), m.some(3, pool)
		what := fmt.Sprintf("seed %d: of %q that run, %q hit", seed, running, hit)
		p, want := jobs.Restart(was, now, running, hit), wanted(was, now, running, hit)
		if !slices.Equal(p.Stop, want.Stop) || !slices.Equal(p.Start, want.Start) {
			t.Fatalf("%s: stop %q, start %q, not %q, and %q", what, p.Stop, p.Start, want.Stop, want.Start)
		}
		if !inPlace(was, p.Stop, false) || !inPlace(now, p.Start, true) {
			t.Fatalf("%s: what stands behind another stops behind it, or starts ahead: %q, %q", what, p.Stop, p.Start)
		}
		once := map[string]bool{}
		for _, n := range running {
			if _, there := now.Get(n); !there {
				once[n] = true
			}
		}
		var gone []string
		for n := range once {
			gone = append(gone, n)
		}
		sort.Strings(gone)
		if got := jobs.Gone(now, running); !slices.Equal(got, gone) {
			t.Fatalf("%s: gone are %q, not %q", what, got, gone)
		}
		stopped, started, left = stopped+len(p.Stop), started+len(p.Start), left+len(gone)
	}
	if min(stopped, started, left) < 2000 {
		t.Errorf("%d stopped, %d started, %d were gone alone", stopped, started, left)
	}
}
