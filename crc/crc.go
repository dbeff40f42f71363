// Package crc is layer 1: sums of thirty-two bits: see shared/doc/01-crc.md.
package crc

// turn is what a number is xored with when a 1 is shifted out of it.
const turn = 0xedb88320

// sumSize is how many bytes a sum has behind sealed ones.
const sumSize = 4

// Table tells what becomes of each number of eight bits when all of them are shifted out.
func Table() [256]uint32 {
	var table [256]uint32
	for n := range table {
		table[n] = shiftedOut(uint32(n))
	}
	return table
}

func shiftedOut(n uint32) uint32 {
	for range 8 {
		gone := n & 1
		n >>= 1
		if gone == 1 {
			n ^= turn
		}
	}
	return n
}

// Add tells the sum of some bytes and b behind them, where sum is theirs.
func Add(sum uint32, b []byte) uint32 {
	// Made anew by each call: it is longer than a table at package level may be.
	table := Table()
	rest := ^sum
	for _, x := range b {
		rest = table[byte(rest)^x] ^ rest>>8
	}
	return ^rest
}

// Sum tells the sum of b.
func Sum(b []byte) uint32 {
	return Add(0, b)
}

// Seal tells b, and its sum behind it.
func Seal(b []byte) []byte {
	sealed := make([]byte, len(b), len(b)+sumSize)
	copy(sealed, b)
	sum := Sum(b)
	return append(sealed, byte(sum), byte(sum>>8), byte(sum>>16), byte(sum>>24))
}

// Open tells what was sealed, or false if b is nobody's seal.
func Open(b []byte) ([]byte, bool) {
	size := len(b) - sumSize
	if size < 0 || Sum(b[:size]) != told(b[size:]) {
		return nil, false
	}
	// A copy, so that whoever asked may change it and leave b as it is.
	opened := make([]byte, size)
	copy(opened, b)
	return opened, true
}

// told lays together the sum of which b holds the bytes, the lowest first.
func told(b []byte) uint32 {
	return uint32(b[0]) | uint32(b[1])<<8 | uint32(b[2])<<16 | uint32(b[3])<<24
}
