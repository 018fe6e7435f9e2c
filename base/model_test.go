package base_test

import (
	"math/rand"
	"reflect"
	"slices"
	"sort"
	"strings"
	"testing"

	"farrier/api"
	"farrier/arc"
	"farrier/base"
)

// plain is an entry, apart, of which a nil list and an empty one are one.
func plain(e base.Entry) base.Entry {
	e.Needs = append([]arc.Need{}, e.Needs...)
	e.Conflicts = append([]string{}, e.Conflicts...)
	e.Files = append([]base.File{}, e.Files...)
	e.Units = append([]string{}, e.Units...)
	return e
}

func same(d, e base.Entry) bool { return reflect.DeepEqual(plain(d), plain(e)) }

// model is packages that are there, in whichever order; they are told by the chapter's words.
type model []base.Entry

func (m model) without(names ...string) model {
	var left model
	for _, e := range m {
		if !slices.Contains(names, e.Name) {
			left = append(left, plain(e))
		}
	}
	return left
}

func (m model) with(list ...base.Entry) model {
	for _, e := range list {
		m = append(m.without(e.Name), plain(e))
	}
	return m
}

func (m model) names() []string {
	var names []string
	for _, e := range m {
		names = append(names, e.Name)
	}
	sort.Strings(names)
	return names
}

func (m model) get(name string) (base.Entry, bool) {
	for _, e := range m {
		if e.Name == name {
			return e, true
		}
	}
	return base.Entry{}, false
}

func (m model) owner(p string) (string, base.File, bool) {
	for _, name := range m.names() {
		e, _ := m.get(name)
		for _, f := range e.Files {
			if f.Path == p {
				return name, f, true
			}
		}
	}
	return "", base.File{}, false
}

func (m model) files() []string {
	once := map[string]int{}
	for _, e := range m {
		for _, f := range e.Files {
			once[f.Path]++
		}
	}
	var paths []string
	for p := range once {
		paths = append(paths, p)
	}
	sort.Strings(paths)
	return paths
}

func (m model) units() []string {
	var texts []string
	for _, name := range m.names() {
		e, _ := m.get(name)
		texts = append(texts, e.Units...)
	}
	return texts
}

func (m model) same(n model) bool {
	for _, e := range m {
		d, ok := n.get(e.Name)
		if !ok || !same(d, e) {
			return false
		}
	}
	return len(m) == len(n)
}

// odd is names and paths that packages have seldom, or never.
var odd = []string{"", " ", "/", "/f", "/f/", "a", "A", "b", "/bin/a", "\xff", "no-such"}

// asked holds all that can be asked of a base against what should be told.
func asked(t *testing.T, what string, b base.Base, m model) {
	t.Helper()
	if got := b.Names(); !slices.Equal(got, m.names()) {
		t.Errorf("%s: the names are %q, not %q", what, got, m.names())
	}
	for _, name := range append(m.names(), odd...) {
		want, there := m.get(name)
		if got, ok := b.Get(name); ok != there || !same(got, want) {
			t.Errorf("%s: %q is %v, %v; not %v, %v", what, name, got, ok, want, there)
		}
	}
	for _, p := range append(m.files(), odd...) {
		name, file, owned := m.owner(p)
		if n, f, ok := b.Owner(p); n != name || f != file || ok != owned {
			t.Errorf("%s: at %q there is %q with %v, %v; not %q with %v, %v", what, p, n, f, ok, name, file, owned)
		}
	}
	if got := b.Files(); !slices.Equal(got, m.files()) {
		t.Errorf("%s: the files are %q, not %q", what, got, m.files())
	}
	if got := b.Units(); !slices.Equal(got, m.units()) {
		t.Errorf("%s: the units are %q, not %q", what, got, m.units())
	}
	packed(t, what, b, m)
}

// packed holds a base to be unpacked as it.
func packed(t *testing.T, what string, b base.Base, m model) {
	t.Helper()
	rows := b.Pack()
	if len(rows) != len(m) {
		t.Errorf("%s: there are %d rows for %d packages", what, len(rows), len(m))
	}
	c, e := base.Unpack(rows...)
	if e != api.OK || !base.Same(b, c) || !base.Same(c, b) {
		t.Errorf("%s: it is unpacked as %v, error %d; not as %v", what, c, e, b)
	}
	for _, want := range m {
		if got, ok := c.Get(want.Name); !ok || !same(got, want) {
			t.Errorf("%s: %q is unpacked as %v, %v; not as %v", what, want.Name, got, ok, want)
		}
	}
	if len(c.Names()) != len(m) {
		t.Errorf("%s: %q are unpacked", what, c.Names())
	}
}

// none holds rows to make no base.
func none(t *testing.T, what string, rows ...[]byte) {
	t.Helper()
	if b, e := base.Unpack(rows...); e != api.ErrForm || len(b.Names()) != 0 {
		t.Errorf("%s: it is unpacked as %v, error %d", what, b, e)
	}
}

// maker makes entries by chance, as Of makes them of right packages, with some names and paths again and again.
type maker struct{ *rand.Rand }

func (m maker) one(texts ...string) string { return texts[m.Intn(len(texts))] }

func (m maker) name() string { return m.one("a", "b", "c", "a-b", "a.b", "web", "9", "lib_c") }

func (m maker) need() arc.Need {
	if m.Intn(3) == 0 {
		return arc.Need{Name: m.name()}
	}
	return arc.Need{Name: m.name(), Way: 1 + m.Intn(3), Ver: m.one("1", "1.2", "9999-1")}
}

func (m maker) entry() base.Entry {
	p := arc.Pkg{Name: m.name(), Version: m.one("0", "1", "1.2-3", "9999.9999.9999.9999-9999")}
	for range m.Intn(4) {
		p.Needs = append(p.Needs, m.need())
	}
	for range m.Intn(4) {
		p.Conflicts = append(p.Conflicts, m.name())
	}
	for range m.Intn(5) {
		data := []byte(m.one("", "one", "two", "123456789"))
		p.Files = append(p.Files, arc.File{Path: m.one("/f", "/bin/a", "/bin/b", "/a/b/c/d/e", "/etc/web", "/g"), Config: m.Intn(2) == 0, Data: data})
	}
	for range m.Intn(3) {
		p.Units = append(p.Units, m.one("", "unit a\nfile /bin/a\n", "x", strings.Repeat("\xff", 300)))
	}
	return base.Of(p)
}

func (m maker) entries() []base.Entry {
	var list []base.Entry
	for range m.Intn(4) {
		list = append(list, m.entry())
	}
	return list
}
