// Package crc is layer 2: see shared/doc/02-crc.md.
package crc

// poly is the polynomial without its x^32, the bit of x^31 the lowest one.
const poly uint32 = 0xEDB88320

// Of is the sum of rows of bytes, one behind the other.
func Of(rows ...[]byte) uint32 {
	rest := ^uint32(0)
	for _, row := range rows {
		for _, b := range row {
			rest = next(rest, b)
		}
	}
	return ^rest
}

// next is the rest with one byte more.
func next(rest uint32, b byte) uint32 {
	rest ^= uint32(b)
	for range 8 {
		// The lowest bit as a mask spares a branch that no processor could foresee.
		rest = rest>>1 ^ poly&-(rest&1)
	}
	return rest
}
