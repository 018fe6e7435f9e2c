package dep_test

import (
	"math/rand"
	"slices"
	"strings"
	"testing"

	"farrier/api"
	"farrier/arc"
	"farrier/base"
	"farrier/dep"
)

// The versions that the models know, from the oldest to the newest; all other texts they take for none.
var versions = []string{"0", "1", "1-1", "1.0", "1.2", "1.10", "2", "3", "10"}

// fits tells whether a text is one of these versions, and as it is asked for.
func fits(v string, n arc.Need) bool {
	at, than := slices.Index(versions, v), slices.Index(versions, n.Ver)
	return at >= 0 && (n.Way == 0 || n.Way == 1 && at >= than || n.Way == 2 && at == than || n.Way == 3 && at < than)
}

// entries is all packages that are there, by their names.
func entries(b base.Base) []base.Entry {
	var list []base.Entry
	for _, name := range b.Names() {
		e, _ := b.Get(name)
		list = append(list, e)
	}
	return list
}

// check tells by the chapter's words what Check should, of packages of these versions, with files at right paths.
func check(b base.Base) dep.Fault {
	list := entries(b)
	if len(list) > 24 {
		return dep.Fault{E: api.ErrFull}
	}
	for _, e := range list {
		for _, n := range e.Needs {
			met := false
			for _, other := range list {
				met = met || other.Name == n.Name && fits(other.Version, n)
			}
			if !met {
				return dep.Fault{E: api.ErrNeeds, Name: e.Name, What: n.Name}
			}
		}
		for _, c := range e.Conflicts {
			for _, other := range list {
				if other.Name == c {
					return dep.Fault{E: api.ErrConflict, Name: e.Name, What: c}
				}
			}
		}
	}
	for i, e := range list {
		for _, f := range e.Files {
			for j, other := range list {
				for _, g := range other.Files {
					if j < i && f.Path == g.Path || strings.HasPrefix(f.Path, g.Path+"/") {
						return dep.Fault{E: api.ErrOwner, Name: e.Name, What: f.Path}
					}
				}
			}
		}
	}
	return dep.Fault{}
}

// after tells by the chapter's words what After should, of such packages.
func after(b base.Base, c dep.Change) (base.Base, dep.Fault) {
	if len(c.Come)+len(c.Go) == 0 {
		return base.Base{}, dep.Fault{E: api.ErrArg}
	}
	next := b
	for i, p := range c.Come {
		if !arc.Right(p) {
			return base.Base{}, dep.Fault{E: api.ErrForm, Name: p.Name}
		}
		for _, ahead := range c.Come[:i] {
			if ahead.Name == p.Name {
				return base.Base{}, dep.Fault{E: api.ErrTwice, Name: p.Name}
			}
		}
		if e, ok := b.Get(p.Name); ok && slices.Index(versions, e.Version) >= slices.Index(versions, p.Version) {
			return base.Base{}, dep.Fault{E: api.ErrVersion, Name: p.Name, What: e.Version}
		}
		next = next.With(base.Of(p))
	}
	for i, name := range c.Go {
		came := func(p arc.Pkg) bool { return p.Name == name }
		if slices.ContainsFunc(c.Come, came) || slices.Contains(c.Go[:i], name) {
			return base.Base{}, dep.Fault{E: api.ErrTwice, Name: name}
		}
		if !slices.Contains(b.Names(), name) {
			return base.Base{}, dep.Fault{E: api.ErrNone, Name: name}
		}
		next = next.Without(name)
	}
	if f := check(next); f != (dep.Fault{}) {
		return base.Base{}, f
	}
	return next, dep.Fault{}
}

// asked holds what a change tells against what it should, and that neither it nor what is there is turned. It tells what there is behind it.
func asked(t *testing.T, what string, b base.Base, c dep.Change) (base.Base, dep.Fault) {
	t.Helper()
	there, change := base.New(entries(b)...), apart(c)
	want, fault := after(b, c)
	got, f := dep.After(b, c)
	if f != fault || !base.Same(got, want) {
		t.Errorf("%s: there is %v, fault %v; not %v, fault %v", what, got, f, want, fault)
	}
	if !base.Same(b, there) {
		t.Errorf("%s: what was there is %v, not %v", what, b, there)
	}
	if !alike(c, change) {
		t.Errorf("%s: the change was turned to %v", what, c)
	}
	return got, f
}

// apart is the same change, in memory of its own.
func apart(c dep.Change) dep.Change {
	d := dep.Change{Go: slices.Clone(c.Go)}
	for _, p := range c.Come {
		p.Needs, p.Conflicts, p.Units = slices.Clone(p.Needs), slices.Clone(p.Conflicts), slices.Clone(p.Units)
		p.Files = slices.Clone(p.Files)
		for i := range p.Files {
			p.Files[i].Data = slices.Clone(p.Files[i].Data)
		}
		d.Come = append(d.Come, p)
	}
	return d
}

// alike tells whether two changes have the same packages, and the same names.
func alike(c, d dep.Change) bool {
	equal := func(p, q arc.Pkg) bool {
		return base.Same(base.New(base.Of(p)), base.New(base.Of(q)))
	}
	return slices.EqualFunc(c.Come, d.Come, equal) && slices.Equal(c.Go, d.Go)
}

// maker makes packages and changes by chance.
type maker struct{ *rand.Rand }

func (m maker) one(texts ...string) string { return texts[m.Intn(len(texts))] }

// seldom tells whether something is so that is so once of n times.
func (m maker) seldom(n int) bool { return m.Intn(n) == 0 }

func (m maker) name() string { return m.one("a", "b", "c", "a-b", "web", "9") }

func (m maker) version() string { return m.one(versions...) }

func (m maker) pkg() arc.Pkg {
	p := arc.Pkg{Name: m.name(), Version: m.version()}
	for m.seldom(4) {
		n := arc.Need{Name: m.name(), Way: m.Intn(4)}
		if n.Way > 0 {
			n.Ver = m.version()
		}
		p.Needs = append(p.Needs, n)
	}
	if c := m.name(); m.seldom(10) && c != p.Name {
		p.Conflicts = append(p.Conflicts, c)
	}
	for m.seldom(2) && len(p.Files) < 3 {
		s := m.one("/"+p.Name, "/"+p.Name, "/"+p.Name, "/x", "/x-", "/x/y", "/x/y/z", "/lib/"+p.Name, "/lib/"+p.Name)
		p.Files = append(p.Files, arc.File{Path: s, Data: []byte(p.Version)})
	}
	slices.SortFunc(p.Files, func(f, g arc.File) int { return strings.Compare(f.Path, g.Path) })
	p.Files = slices.CompactFunc(p.Files, func(f, g arc.File) bool { return f.Path == g.Path || strings.HasPrefix(g.Path, f.Path+"/") })
	if m.seldom(40) {
		p.Version = m.one("", "01", "x")
	}
	return p
}

func (m maker) change() dep.Change {
	var c dep.Change
	for m.seldom(2) {
		c.Come = append(c.Come, m.pkg())
	}
	for m.seldom(4) {
		c.Go = append(c.Go, m.name())
	}
	return c
}
