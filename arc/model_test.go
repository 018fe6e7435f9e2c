package arc_test

import (
	"encoding/binary"
	"hash/crc32"
	"math/rand"
	"reflect"
	"regexp"
	"slices"
	"strconv"
	"strings"
	"testing"

	"farrier/api"
	"farrier/arc"
)

// names, paths and versions are what may be ones, but for . and two of these, and for how long a path is in all.
var (
	names    = regexp.MustCompile(`\A[a-z0-9._-]{1,12}\z`)
	paths    = regexp.MustCompile(`\A(/[^/]+){1,5}\z`)
	versions = regexp.MustCompile(`\A(0|[1-9][0-9]{0,3})(\.(0|[1-9][0-9]{0,3})){0,3}(-[1-9][0-9]{0,3})?\z`)
)

func isName(s string) bool { return names.MatchString(s) && s != "." && s != ".." }

func isPath(s string) bool {
	if !paths.MatchString(s) || len(s) > 40 {
		return false
	}
	for _, n := range strings.Split(s, "/")[1:] {
		if !isName(n) {
			return false
		}
	}
	return true
}

// isRight tells by the chapter's words whether a package is right.
func isRight(p arc.Pkg) bool {
	if !isName(p.Name) || !versions.MatchString(p.Version) || len(p.Needs) > 8 || len(p.Conflicts) > 8 || len(p.Files) > 12 || len(p.Units) > 4 {
		return false
	}
	for _, n := range p.Needs {
		asks := n.Way == 0 && n.Ver == "" || n.Way >= 1 && n.Way <= 3 && versions.MatchString(n.Ver)
		if !isName(n.Name) || !asks {
			return false
		}
	}
	for _, c := range p.Conflicts {
		if !isName(c) || c == p.Name {
			return false
		}
	}
	for _, u := range p.Units {
		if len(u) > 300 {
			return false
		}
	}
	return areFiles(p.Files)
}

func areFiles(files []arc.File) bool {
	last := ""
	for i, f := range files {
		if !isPath(f.Path) || f.Path == "/var" || strings.HasPrefix(f.Path, "/var/") || f.Path <= last || len(f.Data) > 512 {
			return false
		}
		for _, ahead := range files[:i] {
			if strings.HasPrefix(f.Path, ahead.Path+"/") {
				return false
			}
		}
		last = f.Path
	}
	return true
}

// number, text, list lay out the parts of a package's bytes.
func number(n int) []byte { return binary.LittleEndian.AppendUint32(nil, uint32(n)) }

func text(s string) []byte { return append(number(len(s)), s...) }

func list(parts ...[]byte) []byte {
	var all string
	for _, p := range parts {
		all += string(p)
	}
	return text(all)
}

// body is a package's bytes without their sum, whether it is right or not; summed has a right sum behind bytes.
func body(p arc.Pkg) []byte {
	var needs, conflicts, files, units [][]byte
	for _, n := range p.Needs {
		needs = append(needs, text(n.Name), number(n.Way), text(n.Ver))
	}
	for _, c := range p.Conflicts {
		conflicts = append(conflicts, text(c))
	}
	for _, f := range p.Files {
		config := 0
		if f.Config {
			config = 1
		}
		files = append(files, text(f.Path), number(config), text(string(f.Data)))
	}
	for _, u := range p.Units {
		units = append(units, text(u))
	}
	b := append(text(p.Name), text(p.Version)...)
	for _, l := range [][][]byte{needs, conflicts, files, units} {
		b = append(b, list(l...)...)
	}
	return b
}

func summed(b []byte) []byte {
	return append(append([]byte(nil), b...), number(int(crc32.ChecksumIEEE(b)))...)
}

// cutter takes parts off bytes; bad: one wasn't there.
type cutter struct {
	b   []byte
	bad bool
}

func (c *cutter) take(n int) []byte {
	if c.bad || n > len(c.b) {
		c.bad = true
		return nil
	}
	b := c.b[:n]
	c.b = c.b[n:]
	return b
}

func (c *cutter) number() int {
	if b := c.take(4); b != nil {
		return int(binary.LittleEndian.Uint32(b))
	}
	return 0
}

func (c *cutter) text() string { return string(c.take(c.number())) }

// each does something with what is left of a list, part by part.
func (c *cutter) each(do func(l *cutter)) {
	l := &cutter{b: c.take(c.number()), bad: c.bad}
	for !l.bad && len(l.b) > 0 {
		do(l)
	}
	c.bad = c.bad || l.bad
}

// read tells by the chapter's words what Read should.
func read(b []byte) (arc.Pkg, api.Errno) {
	if len(b) < 4 || crc32.ChecksumIEEE(b[:len(b)-4]) != binary.LittleEndian.Uint32(b[len(b)-4:]) {
		return arc.Pkg{}, api.ErrSum
	}
	c := &cutter{b: b[:len(b)-4]}
	p := arc.Pkg{Name: c.text(), Version: c.text()}
	c.each(func(l *cutter) {
		p.Needs = append(p.Needs, arc.Need{Name: l.text(), Way: l.number(), Ver: l.text()})
	})
	c.each(func(l *cutter) { p.Conflicts = append(p.Conflicts, l.text()) })
	c.each(func(l *cutter) {
		f := arc.File{Path: l.text()}
		flag := l.number()
		l.bad = l.bad || flag > 1
		f.Config, f.Data = flag == 1, []byte(l.text())
		p.Files = append(p.Files, f)
	})
	c.each(func(l *cutter) { p.Units = append(p.Units, l.text()) })
	if c.bad || len(c.b) > 0 || !isRight(p) {
		return arc.Pkg{}, api.ErrForm
	}
	return p, api.OK
}

// plain is a package, apart, of which a nil list and an empty one are one.
func plain(p arc.Pkg) arc.Pkg {
	p.Needs = append([]arc.Need{}, p.Needs...)
	p.Conflicts = append([]string{}, p.Conflicts...)
	p.Files = append([]arc.File{}, p.Files...)
	p.Units = append([]string{}, p.Units...)
	for i := range p.Files {
		p.Files[i].Data = append([]byte{}, p.Files[i].Data...)
	}
	return p
}

func same(p, q arc.Pkg) bool { return reflect.DeepEqual(plain(p), plain(q)) }

// asked holds all that can be asked of a package against what should be told: a right one's bytes are read as it, and what isn't right has none. It tells whether the package is right.
func asked(t *testing.T, what string, p arc.Pkg) bool {
	t.Helper()
	ahead, ok, want := plain(p), isRight(p), summed(body(p))
	if got := arc.Right(p); got != ok {
		t.Errorf("%s: Right tells %v", what, got)
	}
	b, e := arc.Write(p)
	switch {
	case ok && (e != api.OK || string(b) != string(want)):
		t.Errorf("%s: Write tells %v, error %d; not %v", what, b, e, want)
	case !ok && (e != api.ErrArg || len(b) != 0):
		t.Errorf("%s: Write tells %v, error %d", what, b, e)
	}
	if !same(p, ahead) {
		t.Errorf("%s: the package was turned to %v", what, p)
	}
	taken(t, what, want)
	return ok
}

// taken holds what bytes are read as against what they should be, and that they are written as they were. It tells the error.
func taken(t *testing.T, what string, b []byte) api.Errno {
	t.Helper()
	ahead := string(b)
	want, wrong := read(b)
	p, e := arc.Read(b)
	if e != wrong || !same(p, want) {
		t.Errorf("%s: Read tells %v, error %d; not %v, error %d", what, p, e, want, wrong)
	}
	if string(b) != ahead {
		t.Errorf("%s: the bytes were turned to %v", what, b)
	}
	if e == api.OK {
		if again, wrong := arc.Write(p); wrong != api.OK || string(again) != ahead {
			t.Errorf("%s: what is read is written as %v, error %d", what, again, wrong)
		}
	}
	return e
}

// maker makes packages by chance, most of which are right.
type maker struct{ *rand.Rand }

// one is one of some texts; odd, one that comes seldom, and is wrong mostly.
func (m maker) one(texts ...string) string { return texts[m.Intn(len(texts))] }

func (m maker) odd(s string, odds ...string) string {
	if m.Intn(150) == 0 {
		return m.one(odds...)
	}
	return s
}

func (m maker) name() string {
	return m.odd(m.one("a", "b", "lib.c", "web-2", "_", "...", "abcdefghijkl"), "", ".", "..", "A", "a/b", "abcdefghijklm", "a b", "\xff")
}

func (m maker) version() string {
	return m.odd(m.one("0", "1", "1.2", "9999.0.10.7", "3-1", "1.2.3.4-9999"), "", "01", "1-0", "10000", "1.2.3.4.5", "v1")
}

func (m maker) bytes(most int) []byte {
	n := m.Intn(8)
	if m.Intn(20) == 0 {
		n = most - m.Intn(3)
	}
	if m.Intn(200) == 0 {
		n = most + 1
	}
	b := make([]byte, n)
	m.Read(b)
	return b
}

// count is how many of a list there are: as a rule up to as many as there may be.
func (m maker) count(most int) int {
	if m.Intn(100) == 0 {
		return most + 1
	}
	return m.Intn(most+1) * m.Intn(2)
}

func (m maker) need() arc.Need {
	n := arc.Need{Name: m.name(), Way: m.Intn(4)}
	if n.Way > 0 {
		n.Ver = m.version()
	}
	if m.Intn(100) == 0 {
		n.Way = m.Intn(7) - 1
	}
	return n
}

func (m maker) pkg() arc.Pkg {
	p := arc.Pkg{Name: m.odd("pkg", "", "..", "Pkg", "abcdefghijklm"), Version: m.version()}
	for range m.count(8) {
		p.Needs = append(p.Needs, m.need())
	}
	for range m.count(8) {
		p.Conflicts = append(p.Conflicts, m.odd(m.name(), "pkg"))
	}
	dirs := []string{"/", "/bin/", "/bin-/", "/etc/a.b/c/", "/vars/"}
	for i := range m.count(12) {
		f := m.odd(m.one(dirs...)+"f"+strconv.Itoa(i), "/", "/var", "/var/f", "/bin", "/a//b", "f", "/a/b/c/d/e/f")
		p.Files = append(p.Files, arc.File{Path: f, Config: m.Intn(2) == 0, Data: m.bytes(512)})
	}
	m.order(p.Files)
	for range m.count(4) {
		p.Units = append(p.Units, string(m.bytes(300)))
	}
	return p
}

// ordered lays files in their order; order does so, too, but for once in a while two of them.
func ordered(files []arc.File) {
	slices.SortFunc(files, func(f, g arc.File) int { return strings.Compare(f.Path, g.Path) })
}

func (m maker) order(files []arc.File) {
	ordered(files)
	if n := len(files); n > 1 && m.Intn(50) == 0 {
		i := m.Intn(n - 1)
		files[i], files[i+1] = files[i+1], files[i]
	}
}
