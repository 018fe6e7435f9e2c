package crc_test

import (
	"bytes"
	"hash/crc32"
	"math/rand"
	"testing"

	"farrier/crc"
)

func TestKnownSums(t *testing.T) {
	for s, want := range map[string]uint32{
		"":                 0,
		"\x00":             0xD202EF8D,
		"\xff":             0xFF000000,
		"\x00\x00\x00\x00": 0x2144DF1C,
		"\xff\xff\xff\xff": 0xFFFFFFFF,
		"a":                0xE8B7BE43,
		"abc":              0x352441C2,
		"123456789":        0xCBF43926,
		"The quick brown fox jumps over the lazy dog": 0x414FA339,
	} {
		if got := crc.Of([]byte(s)); got != want {
			t.Errorf("%q has %08X, not %08X", s, got, want)
		}
	}
}

func TestNothingHasNought(t *testing.T) {
	if crc.Of() != 0 || crc.Of(nil) != 0 || crc.Of([]byte{}) != 0 || crc.Of(nil, []byte{}, nil) != 0 {
		t.Error("no bytes have another sum than 0")
	}
}

// divide is the sum by the document's words: bits in a row, divided bit by bit.
func divide(b []byte) uint32 {
	var bits []int
	for _, x := range b {
		for i := range 8 {
			bits = append(bits, int(x>>i&1))
		}
	}
	bits = append(bits, make([]int, 32)...)
	for i := range 32 {
		bits[i] = 1 - bits[i]
	}
	powers := []int{32, 26, 23, 22, 16, 12, 11, 10, 8, 7, 5, 4, 2, 1, 0}
	for i := range len(bits) - 32 {
		if bits[i] == 1 {
			for _, p := range powers {
				bits[i+32-p] ^= 1
			}
		}
	}
	var sum uint32
	for i, x := range bits[len(bits)-32:] {
		sum |= uint32(1-x) << i
	}
	return sum
}

func TestAsDivided(t *testing.T) {
	for x := range 256 {
		if b := []byte{byte(x)}; crc.Of(b) != divide(b) {
			t.Errorf("the byte %d has %08X, not %08X", x, crc.Of(b), divide(b))
		}
	}
	r := rand.New(rand.NewSource(1))
	for n := range 200 {
		b := make([]byte, n)
		r.Read(b)
		if got, want := crc.Of(b), divide(b); got != want {
			t.Errorf("%d bytes have %08X, not %08X", n, got, want)
		}
	}
}

func TestAsTheLibrary(t *testing.T) {
	r := rand.New(rand.NewSource(2))
	for _, n := range []int{4095, 4096, 4097, 65536, 1 << 20} {
		b := make([]byte, n)
		r.Read(b)
		if got, want := crc.Of(b), crc32.ChecksumIEEE(b); got != want {
			t.Errorf("%d bytes have %08X, not %08X", n, got, want)
		}
	}
}

func TestRowsAreOneBehindTheOther(t *testing.T) {
	b := []byte("packages come, and go")
	want := crc.Of(b)
	for i := range len(b) + 1 {
		for j := i; j <= len(b); j++ {
			if got := crc.Of(b[:i], b[i:j], nil, b[j:]); got != want {
				t.Errorf("cut at %d and %d: %08X, not %08X", i, j, got, want)
			}
		}
	}
	var rows [][]byte
	for i := range b {
		rows = append(rows, b[i:i+1])
	}
	if got := crc.Of(rows...); got != want {
		t.Errorf("byte by byte: %08X, not %08X", got, want)
	}
	if crc.Of([]byte("b"), []byte("a")) == crc.Of([]byte("a"), []byte("b")) {
		t.Error("the rows' order doesn't count")
	}
}

func TestEachTurnedBitIsTold(t *testing.T) {
	b := []byte("a record of some bytes, one bit of which is spoilt")
	want := crc.Of(b)
	for i := range b {
		for bit := range 8 {
			b[i] ^= 1 << bit
			if crc.Of(b) == want {
				t.Errorf("bit %d of byte %d isn't told", bit, i)
			}
			b[i] ^= 1 << bit
		}
	}
}

func TestRowsAreNotTurned(t *testing.T) {
	a, b := []byte("ab"), []byte("cd")
	rows := [][]byte{a, nil, b}
	first := crc.Of(rows...)
	if !bytes.Equal(a, []byte("ab")) || !bytes.Equal(b, []byte("cd")) || rows[1] != nil {
		t.Error("rows were turned")
	}
	if crc.Of(rows...) != first {
		t.Error("the same rows have another sum")
	}
}
