// Package serial is layer 1: numbers that go round.
package serial

// Half the range of each kind of number: two numbers this far apart are in no order.
const (
	half      = 1 << 31
	halfShort = 1 << 15
)

// Dist from a number up to another one.
func Dist(a, b uint32) uint32 {
	return b - a
}

// Less: does a come ahead of b?
func Less(a, b uint32) bool {
	d := Dist(a, b)
	return d != 0 && d < half
}

// LessShort: the same of 16 bits.
func LessShort(a, b uint16) bool {
	d := b - a
	return d != 0 && d < halfShort
}

// Later of two.
func Later(a, b uint32) uint32 {
	if Less(a, b) {
		return b
	}
	return a
}

// In: is x on the way?
func In(x, from, to uint32) bool {
	// Steps from the start are compared, as the way may be longer than half the range, where Less tells nothing.
	return Dist(from, x) <= Dist(from, to)
}
