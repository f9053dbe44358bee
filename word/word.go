// Package word is layer 1: words as bytes, the least one first.
package word

// Size of a word?
func Size(n int) bool {
	return n == 1 || n == 2 || n == 4 || n == 8
}

// Get a word.
func Get(b []byte, at, size int) (uint64, bool) {
	if !within(len(b), at, size) {
		return 0, false
	}
	var v uint64
	for i := size - 1; i >= 0; i-- {
		v = v<<8 | uint64(b[at+i])
	}
	return v, true
}

// Put a word.
func Put(b []byte, at, size int, v uint64) bool {
	if !within(len(b), at, size) {
		return false
	}
	for i := range size {
		b[at+i] = byte(v >> (8 * i))
	}
	return true
}

// Cut a word.
func Cut(v uint64, size int) uint64 {
	if !Size(size) {
		return v
	}
	n := above(size)
	return v << n >> n
}

// Sign of a word, to all bits.
func Sign(v uint64, size int) uint64 {
	if !Size(size) {
		return v
	}
	n := above(size)
	return uint64(int64(v<<n) >> n)
}

// Aligned: is a place a multiple?
func Aligned(at uint64, size int) bool {
	return Size(size) && at%uint64(size) == 0
}

// Bytes of a word.
func Bytes(v uint64, size int) []byte {
	if !Size(size) {
		return nil
	}
	b := make([]byte, size)
	Put(b, 0, size, v)
	return b
}

// within asks whether a word of size bytes lies at a place among n bytes. The
// size is taken off n, not added to the place: that sum may pass the greatest int.
func within(n, at, size int) bool {
	return Size(size) && at >= 0 && at <= n-size
}

// above tells how many bits of 64 lie above a word of a right size.
func above(size int) int {
	return 64 - 8*size
}
