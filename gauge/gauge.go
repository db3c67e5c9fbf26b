// Package gauge is layer 1: numbers with a point, at their edges. See shared/doc/01-gauge.md.
package gauge

import (
	"cmp"
	"math"
	"math/bits"

	"oakum/api"
)

// Class is a number's.
type Class int

// The classes.
const (
	NaN Class = iota
	Infinite
	Zero
	Small
	Normal
)

const (
	fractionBits = 52
	fractionMask = 1<<fractionBits - 1
	topExponent  = 2047
	lowestPower  = -1074 // of 2, in the amount of a number whose exponent is 0

	oneNaN = topExponent<<fractionBits | 1<<(fractionBits-1)

	wholeBits = 62 // amounts from 2 to this power on are beyond the range
	mostCount = 1000
)

// Of is the number that has bits.
func Of(bits uint64) float64 { return math.Float64frombits(bits) }

// Bits is a number's; all NaN have the same, so that none can be told from another.
func Bits(x float64) uint64 {
	if Kind(x) == NaN {
		return oneNaN
	}
	return math.Float64bits(x)
}

// Kind is a number's class. The cases stand in the order in which the classes are counted,
// so each one's class is one below that of the case behind it, and the last one's is one below Normal.
func Kind(x float64) Class {
	exponent, fraction := parts(x)
	class := Normal
	switch {
	case exponent == topExponent && fraction != 0:
		class--
		fallthrough
	case exponent == topExponent:
		class--
		fallthrough
	case exponent == 0 && fraction == 0:
		class--
		fallthrough
	case exponent == 0:
		class--
	}
	return class
}

// parts is a number's exponent and fraction, as its bits have them.
func parts(x float64) (exponent int, fraction uint64) {
	b := math.Float64bits(x)
	return int(b >> fractionBits & topExponent), b & fractionMask
}

// Compare orders two numbers: -1, 0 or 1.
func Compare(a, b float64) int { return cmp.Compare(place(a), place(b)) }

// place is where a number stands in the order of all. Go's own < will not do:
// it holds both zeros for one, and has no place for NaN.
func place(x float64) int64 {
	b := int64(Bits(x))
	if b < 0 {
		return ^(b & math.MaxInt64)
	}
	return b
}

// Least is the first one, in the order of all numbers, of those that are not NaN; false, if there is none.
func Least(l ...float64) (float64, bool) {
	least, found := 0.0, false
	for _, x := range l {
		if Kind(x) == NaN {
			continue
		}
		if !found || Compare(x, least) < 0 {
			least, found = x, true
		}
	}
	return least, found
}

// Floor is a number, rounded down; ErrRange, if it is NaN, or its amount is too great.
func Floor(x float64) (int64, api.Errno) {
	if Kind(x) == NaN || math.Abs(x) >= 1<<wholeBits {
		return 0, api.ErrRange
	}
	return int64(math.Floor(x)), api.OK
}

// Ratio is a divided by b; by 0 it is infinite, or NaN.
func Ratio(a, b int64) float64 { return float64(a) / float64(b) }

// Need is the least whole number that is not below rate times n. Floats would round the product,
// so it is made of whole numbers: at most 53 bits times at most 10, which a uint64 has room for.
func Need(rate float64, n int) (int64, api.Errno) {
	if !isRate(rate) || n < 0 || n > mostCount {
		return 0, api.ErrArg
	}
	whole, power := amount(rate)
	product := whole * uint64(n)
	switch {
	case product == 0:
		return 0, api.OK
	case bits.Len64(product)+power > wholeBits:
		return 0, api.ErrRange
	case power >= 0:
		return int64(product << power), api.OK
	}
	return int64(shiftUp(product, -power)), api.OK
}

// isRate tells whether a number may be a rate: the 0 with a sign may, and NaN may not, for Go holds it to be at or above nothing.
func isRate(x float64) bool { return x >= 0 && Kind(x) != Infinite }

// amount is a number's, exactly: whole times 2 to the power. The number is neither NaN nor infinite.
func amount(x float64) (whole uint64, power int) {
	exponent, fraction := parts(x)
	if exponent == 0 {
		return fraction, lowestPower
	}
	return 1<<fractionBits + fraction, exponent - 1 + lowestPower
}

// shiftUp is n divided by 2 to the power by, rounded up. A shift by all bits and more leaves 0, as Go has it.
func shiftUp(n uint64, by int) uint64 {
	down := n >> by
	if down<<by != n {
		down++
	}
	return down
}
