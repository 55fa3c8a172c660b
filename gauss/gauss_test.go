package gauss_test

import (
	"math"
	"math/big"
	"slices"
	"testing"

	"reeve/gauss"
)

const (
	most = 1 << 40
	near = 1 << 30
	ring = 1000003
)

// notWhole: what no call may take, each for one reason alone, in either part.
func notWhole() []complex128 {
	minus := math.Copysign(0, -1)
	bad := []float64{
		0.5, -0.5, 7.25, most - 0.5, 0.5 - most, math.Nextafter(1, 2), math.SmallestNonzeroFloat64,
		most + 1, -most - 1, math.Nextafter(most, math.Inf(1)), 1 << 53, 1 << 63, -1 << 63, 1 << 64, 1e300, -math.MaxFloat64,
		minus, math.NaN(), math.Inf(1), math.Inf(-1),
	}
	var l []complex128
	for _, x := range bad {
		l = append(l, complex(x, 0), complex(0, x), complex(x, 3), complex(-3, x), complex(x, x))
	}
	return l
}

// edges: whole numbers at and beside each limit that the chapter names.
func edges() []int64 {
	l := []int64{0}
	for _, x := range []int64{1, 2, 3, 7, 65535, 65536, ring - 1, ring, near - 1, near, near + 1, 1<<32 - 1, 1 << 32, most - 1, most, most + 1, 1<<53 + 1, 1 << 62, math.MaxInt64} {
		l = append(l, x, -x)
	}
	return append(l, math.MinInt64)
}

func within(a, limit int64) bool { return -limit <= a && a <= limit }

// noSign tells whether z has no part that is -0.
func noSign(z complex128) bool {
	return !(real(z) == 0 && math.Signbit(real(z))) && !(imag(z) == 0 && math.Signbit(imag(z)))
}

// plain is the value that has these parts, made without the package.
func plain(a, b int64) complex128 { return complex(float64(a), float64(b)) }

// series gives words that are the same in each run.
func series(seed uint64) func() uint64 {
	return func() uint64 {
		seed += 0x9e3779b97f4a7c15
		x := seed
		x = (x ^ x>>30) * 0xbf58476d1ce4e5b9
		x = (x ^ x>>27) * 0x94d049bb133111eb
		return x ^ x>>31
	}
}

// part gives a whole number from -limit to limit, often a small one.
func part(next func() uint64, limit int64) int64 {
	x := int64(next() % uint64(2*limit+1))
	if next()%4 == 0 {
		x = limit + int64(next()%7) - 3
	}
	return max(-limit, min(limit, x-limit))
}

func TestWholeTakesAllWholeNumbers(t *testing.T) {
	for _, a := range edges() {
		for _, b := range edges() {
			want := within(a, most) && within(b, most)
			if got := gauss.Whole(plain(a, b)); got != want {
				t.Errorf("P1.1: Whole(%d, %d): %v", a, b, got)
			}
		}
	}
}

func TestWholeRefusesOthers(t *testing.T) {
	for _, z := range notWhole() {
		if gauss.Whole(z) {
			t.Errorf("P1.1: Whole(%v), signs %v %v", z, math.Signbit(real(z)), math.Signbit(imag(z)))
		}
	}
}

func TestOf(t *testing.T) {
	for _, a := range edges() {
		for _, b := range edges() {
			z, ok := gauss.Of(a, b)
			want, may := complex128(0), within(a, most) && within(b, most)
			if may {
				want = plain(a, b)
			}
			if z != want || ok != may || !noSign(z) {
				t.Errorf("P1.1: Of(%d, %d): %v, %v", a, b, z, ok)
			}
		}
	}
	if z, ok := gauss.Of(2, -3); z != 2-3i || !ok {
		t.Errorf("P1.1: Of(2, -3): %v, %v", z, ok)
	}
}

func TestPartsGoBack(t *testing.T) {
	for _, a := range edges() {
		for _, b := range edges() {
			z, may := gauss.Of(a, b)
			if !may {
				continue
			}
			if c, d, ok := gauss.Parts(z); c != a || d != b || !ok {
				t.Errorf("P1.1: Parts of Of(%d, %d): %d, %d, %v", a, b, c, d, ok)
			}
		}
	}
	for _, z := range notWhole() {
		if a, b, ok := gauss.Parts(z); a != 0 || b != 0 || ok {
			t.Errorf("P1.1: Parts(%v): %d, %d, %v", z, a, b, ok)
		}
	}
}

func TestAddIsExact(t *testing.T) {
	next := series(1)
	check := func(a, b, c, d int64) {
		z, ok := gauss.Add(plain(a, b), plain(c, d))
		want, may := complex128(0), within(a+c, most) && within(b+d, most)
		if may {
			want = plain(a+c, b+d)
		}
		if z != want || ok != may || !noSign(z) {
			t.Errorf("P1.1: Add(%d, %d; %d, %d): %v, %v", a, b, c, d, z, ok)
		}
	}
	for range 3000 {
		check(part(next, most), part(next, most), part(next, most), part(next, most))
	}
	check(1, 2, 3, -1)
	check(5, -5, -5, 5)
	check(most, 0, 0, most)
	check(most-1, 0, 1, 0)
	check(most, 0, 1, 0)
	check(0, most, 0, 1)
	check(-most, 0, -1, 0)
	check(0, -most, 0, -1)
	check(most, most, -most, -most)
	check(most, most, most, most)
}

// exactly multiplies by integers of any length.
func exactly(a, b, c, d int64) (re, im *big.Int) {
	times := func(x, y int64) *big.Int { return new(big.Int).Mul(big.NewInt(x), big.NewInt(y)) }
	re = new(big.Int).Sub(times(a, c), times(b, d))
	im = new(big.Int).Add(times(a, d), times(b, c))
	return re, im
}

func checkMul(t *testing.T, a, b, c, d int64) {
	t.Helper()
	re, im := exactly(a, b, c, d)
	top := big.NewInt(most)
	may := re.CmpAbs(top) <= 0 && im.CmpAbs(top) <= 0
	for _, x := range []int64{a, b, c, d} {
		may = may && within(x, near)
	}
	var want complex128
	if may {
		want = plain(re.Int64(), im.Int64())
	}
	z, ok := gauss.Mul(plain(a, b), plain(c, d))
	if z != want || ok != may || !noSign(z) {
		t.Errorf("P1.1: Mul(%d, %d; %d, %d): %v, %v, want %v, %v", a, b, c, d, z, ok, want, may)
	}
}

func TestMul(t *testing.T) {
	next := series(2)
	for range 3000 {
		checkMul(t, part(next, 1<<19), part(next, 1<<19), part(next, 1<<19), part(next, 1<<19))
		checkMul(t, part(next, near+4), part(next, 1<<9), part(next, 1<<9), part(next, near+4))
	}
	for _, a := range edges() {
		if !within(a, most) {
			continue
		}
		for _, k := range []int64{0, 1, -1, 2, 1 << 10, 1<<10 + 1, -1<<10 - 1} {
			checkMul(t, a, 0, k, 0)
			checkMul(t, 0, a, k, 0)
			checkMul(t, k, 0, 0, a)
			checkMul(t, 0, k, a, 0)
		}
	}
	if z, ok := gauss.Mul(1+2i, 3-1i); z != 5+5i || !ok {
		t.Errorf("P1.1: Mul(1+2i, 3-1i): %v, %v", z, ok)
	}
}

// Parts whose products floats would round, of which one part of the answer is small, and answers just at 2^40.
func TestMulWhereProductsAreGreat(t *testing.T) {
	checkMul(t, near-1, 1, near-1, 1-near)
	checkMul(t, near-1, near, near-1, near-2)
	checkMul(t, near-1, near-2, 1-near, near)
	for k := range int64(40) {
		checkMul(t, near-k, near-2*k, near-k, near)
		checkMul(t, near-k, near-k-1, near-k+1, near-k)
		checkMul(t, near-k, k-near, near, near-k)
	}
	if z, ok := gauss.Mul(complex(near-1, near), complex(near-1, near-2)); z != 0 || ok {
		t.Errorf("P1.1: Mul with a great imaginary part: %v, %v", z, ok)
	}
	// (n + ni) (m - mi) is 2nm: real alone.
	if z, ok := gauss.Mul(complex(near, near), complex(512, -512)); z != most || !ok {
		t.Errorf("P1.1: Mul up to 2^40: %v, %v", z, ok)
	}
	if z, ok := gauss.Mul(complex(near, near), complex(513, -513)); z != 0 || ok {
		t.Errorf("P1.1: Mul past 2^40: %v, %v", z, ok)
	}
}

func TestReckoningRefusesWhatIsNotWhole(t *testing.T) {
	for _, z := range notWhole() {
		for _, y := range []complex128{0, 1, -2 + 3i, z, -z} {
			if x, ok := gauss.Add(z, y); x != 0 || ok || !noSign(x) {
				t.Errorf("P1.1: Add(%v, %v): %v, %v", z, y, x, ok)
			}
			if x, ok := gauss.Add(y, z); x != 0 || ok || !noSign(x) {
				t.Errorf("P1.1: Add(%v, %v): %v, %v", y, z, x, ok)
			}
			if x, ok := gauss.Mul(z, y); x != 0 || ok || !noSign(x) {
				t.Errorf("P1.1: Mul(%v, %v): %v, %v", z, y, x, ok)
			}
			if x, ok := gauss.Mul(y, z); x != 0 || ok || !noSign(x) {
				t.Errorf("P1.1: Mul(%v, %v): %v, %v", y, z, x, ok)
			}
		}
	}
	// Both are not Whole, their sum and their product are.
	if x, ok := gauss.Add(0.5, 0.5); x != 0 || ok {
		t.Errorf("P1.1: Add(0.5, 0.5): %v, %v", x, ok)
	}
	if x, ok := gauss.Add(complex(most+1, 0), -1); x != 0 || ok {
		t.Errorf("P1.1: Add(2^40 + 1, -1): %v, %v", x, ok)
	}
	if x, ok := gauss.Mul(0.5, 2); x != 0 || ok {
		t.Errorf("P1.1: Mul(0.5, 2): %v, %v", x, ok)
	}
}

func TestTurn(t *testing.T) {
	next := series(3)
	for range 300 {
		a, b := part(next, most), part(next, most)
		for n, want := range []complex128{plain(a, b), plain(-b, a), plain(-a, -b), plain(b, -a)} {
			for _, quarters := range []int{n, n + 4, n - 4, n + 400, n - 400, math.MinInt + n, math.MaxInt - 3 + n, int(next()>>1)&^3 | n, -int(next()>>2)&^3 | n} {
				if got := gauss.Turn(plain(a, b), quarters); got != want || !noSign(got) {
					t.Errorf("P1.1: Turn(%d, %d; %d): %v, want %v", a, b, quarters, got, want)
				}
			}
		}
	}
}

func TestTurnLeavesNoSignAtZero(t *testing.T) {
	for _, z := range []complex128{0, 1, -1, 1i, -1i, most, -most, most * 1i, -most * 1i} {
		if !noSign(z) {
			t.Fatalf("a constant has -0: %v", z)
		}
		for n := -8; n <= 8; n++ {
			if got := gauss.Turn(z, n); !gauss.Whole(got) || !noSign(got) {
				t.Errorf("P1.1: Turn(%v, %d): %v", z, n, got)
			}
		}
	}
}

func TestTurnAndNormOfWhatIsNotWhole(t *testing.T) {
	for _, z := range notWhole() {
		for _, n := range []int{0, 1, 2, 3, -1, math.MinInt, math.MaxInt} {
			if got := gauss.Turn(z, n); got != 0 || !noSign(got) {
				t.Errorf("P1.1: Turn(%v, %d): %v", z, n, got)
			}
		}
		if got := gauss.Norm(z); got != -1 {
			t.Errorf("P1.1: Norm(%v): %d", z, got)
		}
	}
}

func TestNorm(t *testing.T) {
	for _, a := range edges() {
		for _, b := range edges() {
			want := int64(-1)
			if within(a, near) && within(b, near) {
				want = a*a + b*b
			}
			if got := gauss.Norm(plain(a, b)); got != want {
				t.Errorf("P1.1: Norm(%d, %d): %d, want %d", a, b, got, want)
			}
		}
	}
	if got := gauss.Norm(3 - 4i); got != 25 {
		t.Errorf("P1.1: Norm(3-4i): %d", got)
	}
	// 2^60 and 1: a float would lose the 1.
	if got := gauss.Norm(complex(near, 1)); got != 1<<60+1 {
		t.Errorf("P1.1: Norm(2^30 + i): %d", got)
	}
}

// spun reckons Spin by integers, and each rest by steps of the ring.
func spun(l []uint64) (re, im int64) {
	held := func(x int64) int64 {
		for x < 0 {
			x += ring
		}
		for x >= ring {
			x -= ring
		}
		return x
	}
	for _, w := range l {
		re, im = -im, re
		re += int64(uint16(w)) - int64(uint16(w>>32))
		im += int64(uint16(w>>16)) - int64(uint16(w>>48))
		re, im = held(re), held(im)
	}
	return re, im
}

func checkSpin(t *testing.T, l ...uint64) {
	t.Helper()
	re, im := spun(l)
	if got := gauss.Spin(l...); got != plain(re, im) || !noSign(got) {
		t.Errorf("P1.1: Spin(%x): %v, want %v", l, got, plain(re, im))
	}
}

func TestSpin(t *testing.T) {
	checkSpin(t)
	for shift := range 64 {
		checkSpin(t, 1<<shift)
		checkSpin(t, 0, 1<<shift, 0)
		checkSpin(t, 1<<shift, 1<<shift, 1<<shift, 1<<shift, 1<<shift)
	}
	next := series(4)
	for n := range 200 {
		var l []uint64
		for range n {
			l = append(l, next())
		}
		checkSpin(t, l...)
	}
	if got := gauss.Spin(1); got != 1 {
		t.Errorf("P1.1: Spin(1): %v", got)
	}
}

// Words that push the same way at each quarter carry the parts over the ring's ends.
func TestSpinIsHeldByItsRest(t *testing.T) {
	up := [4]uint64{65535, 65535 << 16, 65535 << 32, 65535 << 48}
	var more, less []uint64
	for n := range 200 {
		more = append(more, up[n%4])
		less = append(less, up[(n+2)%4])
		checkSpin(t, more...)
		checkSpin(t, less...)
	}
	for i, c := range []struct {
		l    []uint64
		want complex128
	}{
		{[]uint64{1 << 32}, ring - 1}, {[]uint64{1 << 48}, (ring - 1) * 1i},
		{[]uint64{1 << 32, 0}, (ring - 1) * 1i}, {[]uint64{1 << 32, 1 << 16}, 0}, {[]uint64{1 << 32, 2 << 16}, 1i},
		{[]uint64{1 << 32, 65535 << 16}, 65534i}, {[]uint64{1 << 32, 65535 << 48}, (ring - 1 - 65535) * 1i},
		{[]uint64{1 << 48, 0}, 1}, {[]uint64{1 << 48, 1 << 32}, 0}, {[]uint64{1 << 48, 2 << 32}, ring - 1},
		{[]uint64{1 << 48, 65535 << 32}, 2*ring - (ring - 1 + 65535)}, {[]uint64{1 << 48, 65535}, 65536},
	} {
		if got := gauss.Spin(c.l...); got != c.want || !noSign(got) {
			t.Errorf("P1.1: Spin at the ring's end, number %d: %v, want %v", i, got, c.want)
		}
	}
}

func TestSpinLeavesItsWords(t *testing.T) {
	room := []uint64{1, 1 << 63, 3, 77, 78}
	want := slices.Clone(room)
	first := gauss.Spin(room[:3]...)
	if !slices.Equal(room, want) {
		t.Errorf("R4: Spin changed its words: %v", room)
	}
	if again := gauss.Spin(room[:3:3]...); again != first {
		t.Errorf("R5: Spin told %v, then %v", first, again)
	}
	if gauss.Spin(nil...) != gauss.Spin([]uint64{}...) {
		t.Errorf("R4: Spin of nil and of no words")
	}
}

func TestWord(t *testing.T) {
	for _, a := range edges() {
		for _, b := range edges() {
			var want uint64
			may := 0 <= a && a <= 1<<32-1 && 0 <= b && b <= 1<<32-1
			if may {
				want = uint64(a) + uint64(b)*(1<<32)
			}
			if w, ok := gauss.Word(plain(a, b)); w != want || ok != may {
				t.Errorf("P1.1: Word(%d, %d): %d, %v", a, b, w, ok)
			}
		}
	}
	for _, z := range notWhole() {
		if w, ok := gauss.Word(z); w != 0 || ok {
			t.Errorf("P1.1: Word(%v): %d, %v", z, w, ok)
		}
	}
	if w, ok := gauss.Word(5 + 7i); w != 7<<32|5 || !ok {
		t.Errorf("P1.1: Word(5+7i): %d, %v", w, ok)
	}
}
