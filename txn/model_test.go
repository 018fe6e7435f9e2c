package txn_test

import (
	"bytes"
	"encoding/binary"
	"math/rand"
	"regexp"
	"testing"

	"farrier/api"
	"farrier/txn"
)

// isName and isPath are what may be a name, and a path, but for . and two of these, and for how long a path is in all.
var (
	isName = regexp.MustCompile(`\A[a-z0-9._-]{1,12}\z`)
	isPath = regexp.MustCompile(`\A(/[a-z0-9._-]{1,12}){1,5}\z`)
	dots   = regexp.MustCompile(`(\A|/)\.\.?(/|\z)`)
)

// right tells by the chapter's words whether an upgrade may be.
func right(x txn.Txn) bool {
	for _, m := range x.Moves {
		if m.Kind < 0 || m.Kind > 2 || !isPath.MatchString(m.Path) || dots.MatchString(m.Path) || len(m.Path) > 40 {
			return false
		}
	}
	for _, list := range [][]string{x.Come, x.Go} {
		for _, n := range list {
			if !isName.MatchString(n) || dots.MatchString(n) {
				return false
			}
		}
	}
	return x.Phase >= 0 && x.Phase <= 4 && x.At >= 0 && x.At <= len(x.Moves) && len(x.Moves) <= 40 && len(x.Come)+len(x.Go) <= 24
}

// packed is an upgrade's bytes, by the chapter's words.
func packed(x txn.Txn) []byte {
	num := func(n int) []byte { return binary.LittleEndian.AppendUint32(nil, uint32(n)) }
	text := func(s string) []byte { return append(num(len(s)), s...) }
	var moved []byte
	for _, m := range x.Moves {
		moved = append(append(moved, num(m.Kind)...), text(m.Path)...)
	}
	b := append(num(x.Phase), num(x.At)...)
	b = append(b, text(string(moved))...)
	for _, list := range [][]string{x.Come, x.Go} {
		var all []byte
		for _, n := range list {
			all = append(all, text(n)...)
		}
		b = append(b, text(string(all))...)
	}
	return b
}

// some is one of some texts; most of them may be what they should be.
func some(r *rand.Rand, good, bad []string) string {
	if r.Intn(60) == 0 {
		return bad[r.Intn(len(bad))]
	}
	return good[r.Intn(len(good))]
}

// number is a number from 0 to a bound, or seldom one beside these.
func number(r *rand.Rand, most int) int {
	if r.Intn(40) == 0 {
		return r.Intn(9) - 4 + most
	}
	return r.Intn(most + 1)
}

// upgrade is one that may be, or nearly.
func upgrade(r *rand.Rand) txn.Txn {
	goodNames, badNames := []string{"a", "web", "lib-2.0", "...", "abcdefghijkl"}, []string{"", ".", "..", "A", "abcdefghijklm", "a/b", "\xff"}
	goodPaths, badPaths := []string{"/f", "/bin/web", "/a/b/c/d/e", "/abcdefghijk/abcdefghijk/abcdefghijk/abc"}, []string{"", "/", "f", "/a/..", "/a//b", "/a/b/c/d/e/f", "/abcdefghijk/abcdefghijk/abcdefghijk/abcd", "/f\n"}
	x := txn.Txn{Phase: number(r, 4)}
	for range r.Intn(8) * r.Intn(8) {
		x.Moves = append(x.Moves, txn.Move{Kind: number(r, 2), Path: some(r, goodPaths, badPaths)})
	}
	x.At = number(r, len(x.Moves))
	for range r.Intn(16) {
		x.Come = append(x.Come, some(r, goodNames, badNames))
	}
	for range r.Intn(16) {
		x.Go = append(x.Go, some(r, goodNames, badNames))
	}
	return x
}

func TestRandomUpgrades(t *testing.T) {
	r := rand.New(rand.NewSource(18))
	may := 0
	for range 4000 {
		x := upgrade(r)
		if got := x.Pack(); !bytes.Equal(got, packed(x)) {
			t.Fatalf("the bytes of %#v are %v", x, got)
		}
		is(t, "a random one", right(x), x)
		if right(x) {
			may++
		}
	}
	if may < 400 || may > 3600 {
		t.Errorf("%d of 4000 may be", may)
	}
}

// Whatever is done to bytes: what is unpacked is packed as the same, and may be.
func TestRandomBytes(t *testing.T) {
	r := rand.New(rand.NewSource(81))
	taken := 0
	for range 20000 {
		b := upgrade(r).Pack()
		switch r.Intn(4) {
		case 0:
			b[r.Intn(len(b))] = byte(r.Intn(256))
		case 1:
			b[r.Intn(len(b))] ^= 1 << r.Intn(3)
		case 2:
			i := r.Intn(len(b))
			b = append(b[:i:i], b[i+r.Intn(len(b)-i+1):]...)
		case 3:
			b = append(b, upgrade(r).Pack()[:r.Intn(20)]...)
		}
		x, e := txn.Unpack(b)
		if e == api.OK {
			taken++
			if !x.Right() || !right(x) || !bytes.Equal(packed(x), b) {
				t.Fatalf("%v are unpacked as %#v", b, x)
			}
		} else if e != api.ErrForm || !same(x, txn.Txn{}) {
			t.Fatalf("of %v %#v and %d are told", b, x, e)
		}
	}
	if taken < 1000 || taken > 19000 {
		t.Errorf("%d of 20000 are unpacked", taken)
	}
}
