// Package gauss: whole complex numbers: see DOC.md, chapter 1.
package gauss

import "math"

const (
	most    = 1 << 40   // of a part that is Whole
	near    = 1 << 30   // of a part that is multiplied or squared
	half    = 1<<32 - 1 // of a part that goes into a word
	quarter = 1<<16 - 1 // of what a word gives to one way of Spin
	ring    = 1000003   // what Spin's parts are held by
)

// Whole tells whether both parts are whole.
func Whole(z complex128) bool { return wholePart(real(z)) && wholePart(imag(z)) }

// wholePart asks for the range first: of floats beyond it int64(x) may be anything.
func wholePart(x float64) bool {
	return -most <= x && x <= most && float64(int64(x)) == x && !(x == 0 && math.Signbit(x))
}

// Of makes one.
func Of(a, b int64) (complex128, bool) {
	if !within(a, -most, most) || !within(b, -most, most) {
		return 0, false
	}
	return complex(float64(a), float64(b)), true
}

func within(a, least, greatest int64) bool { return least <= a && a <= greatest }

// Parts tells both parts.
func Parts(z complex128) (a, b int64, ok bool) {
	if !Whole(z) {
		return 0, 0, false
	}
	return int64(real(z)), int64(imag(z)), true
}

// Add adds two. Floats do that exactly: such sums are far below 2^53, and -0 comes of -0 alone.
func Add(x, y complex128) (complex128, bool) {
	sum := x + y
	if !Whole(x) || !Whole(y) || !Whole(sum) {
		return 0, false
	}
	return sum, true
}

// Mul multiplies two. Floats do that exactly where it counts: they round products past 2^53 alone,
// and then the answer (as long as x's length times y's) has a part far past 2^40.
func Mul(x, y complex128) (complex128, bool) {
	if !isNear(x) || !isNear(y) {
		return 0, false
	}
	product := unsigned(x * y)
	if !Whole(product) {
		return 0, false
	}
	return product, true
}

// isNear tells whether one may be multiplied.
func isNear(z complex128) bool {
	a, b, ok := Parts(z)
	return ok && within(a, -near, near) && within(b, -near, near)
}

// unsigned takes the sign from parts that are -0, as products with 0 may be: -0 and 0 add up to 0.
func unsigned(z complex128) complex128 { return z + 0 }

// Turn turns one by quarters.
func Turn(z complex128, quarters int) complex128 {
	if !Whole(z) {
		return 0
	}
	powers := [4]complex128{1, 1i, -1, -1i}
	// &3, as %4 is below 0 of quarters that are.
	return unsigned(z * powers[quarters&3])
}

// Norm tells its square. It reckons in integers: floats lose the low bits past 2^53.
func Norm(z complex128) int64 {
	if !isNear(z) {
		return -1
	}
	a, b, _ := Parts(z)
	return a*a + b*b
}

// Spin sums words up.
func Spin(l ...uint64) complex128 {
	var z complex128
	for _, w := range l {
		more := complex(float64(w&quarter), float64(w>>16&quarter))
		less := complex(float64(w>>32&quarter), float64(w>>48))
		z = Turn(z, 1) + more - less
		z = complex(rest(real(z)), rest(imag(z)))
	}
	return z
}

// rest is never below 0: what % leaves has the sign of x, and the second % takes away what was added for that.
func rest(x float64) float64 { return float64((int64(x)%ring + ring) % ring) }

// Word puts one in a word.
func Word(z complex128) (uint64, bool) {
	a, b, ok := Parts(z)
	if !ok || !within(a, 0, half) || !within(b, 0, half) {
		return 0, false
	}
	return uint64(b)<<32 | uint64(a), true
}
