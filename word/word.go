// Package word: what a word holds: see doc/01-word.md.
package word

import "armillary/api"

// What is put into words.
const (
	aPlace = iota
	aSequence
	aVersion
	aPart
	aWriter
	aValue
)

// bounds holds the least and the most of each. The most are so small that the
// two parts of a word never touch, and that no word is below 0.
var bounds = [...][2]int{
	aPlace:    {0, 1 << 30},
	aSequence: {0, 1 << 30},
	aVersion:  {0, 1<<24 - 4},
	aPart:     {0, 1<<24 - 4},
	aWriter:   {0, 1 << 20},
	aValue:    {-1, api.MaxVal},
}

// Bits that the lower part of a word has.
const (
	markBits  = 1
	partBits  = 24
	valueBits = 21
)

func Next(at int, mark bool) int {
	bit := 0
	if mark {
		bit = 1
	}
	return join(held(at, aPlace), bit, markBits)
}

func At(w int) int { return upper(w, markBits) }

func Marked(w int) bool { return lower(w, markBits) == 1 }

func State(version int) int { return held(version, aVersion) + api.Given }

func Version(state int) int {
	if state < api.Given {
		return -1
	}
	return state - api.Given
}

func Claim(seq, state int) int {
	return join(held(seq, aSequence), held(state, aPart), partBits)
}

func Seq(w int) int { return upper(w, partBits) }

func Part(w int) int { return lower(w, partBits) }

// Data lays the value one higher, as bits have no -1.
func Data(writer, val int) int {
	return join(held(writer, aWriter), held(val, aValue)+1, valueBits)
}

func Writer(d int) int { return upper(d, valueBits) }

func Val(d int) int { return lower(d, valueBits) - 1 }

func held(n, kind int) int {
	return min(max(n, bounds[kind][0]), bounds[kind][1])
}

// Words are joined and cut as unsigned numbers, so that no shift carries a sign.

func join(above, below int, bits uint) int {
	return int(uint64(above)<<bits | uint64(below))
}

func upper(w int, bits uint) int { return int(uint64(w) >> bits) }

func lower(w int, bits uint) int { return int(uint64(w) & (uint64(1)<<bits - 1)) }
