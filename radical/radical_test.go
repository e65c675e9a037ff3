package radical_test

import (
	"encoding/binary"
	"math"
	"math/big"
	"math/rand/v2"
	"slices"
	"testing"

	"exactreal/api"
	"exactreal/arith"
	"exactreal/interval"
	"exactreal/radical"
)

const (
	top = math.MaxUint32
	// Small intervals end at multiples of 2^-finest that are less than 2^highest.
	finest  = 2 * api.MaxWork
	highest = api.MaxMagnitude
)

// number returns the number that a sign and a list stand for, whether they are valid or not.
func number(neg bool, a []uint32) *big.Int {
	var digits []byte
	for _, word := range slices.Backward(a) {
		digits = binary.BigEndian.AppendUint32(digits, word)
	}
	v := new(big.Int).SetBytes(digits)
	if neg {
		v.Neg(v)
	}
	return v
}

// elements returns the natural of the absolute value of v, made without the packages of the project.
func elements(v *big.Int) []uint32 {
	var a []uint32
	digits := v.FillBytes(make([]byte, (v.BitLen()+31)/32*4))
	for i := len(digits); i > 0; i -= 4 {
		a = append(a, binary.BigEndian.Uint32(digits[i-4:]))
	}
	return a
}

// wide returns the dyadic of man * 2^exp, made without the packages of the project, which must be in range.
func wide(man *big.Int, exp int) api.Dyadic {
	if man.Sign() == 0 {
		return api.Dyadic{}
	}
	zeros := int(man.TrailingZeroBits())
	odd := new(big.Int).Rsh(man, uint(zeros))
	return api.Dyadic{Man: api.Int{Neg: man.Sign() < 0, Mag: elements(odd)}, Exp: exp + zeros}
}

func dy(man int64, exp int) api.Dyadic {
	return wide(big.NewInt(man), exp)
}

// span returns the interval from lo to hi, whether it is valid or not.
func span(lo, hi api.Dyadic) api.Interval {
	return api.Interval{Lo: lo, Hi: hi}
}

func point(d api.Dyadic) api.Interval {
	return span(d, d)
}

// whole returns the interval between two integers.
func whole(lo, hi int64) api.Interval {
	return span(dy(lo, 0), dy(hi, 0))
}

// halves returns the interval between the halves of two integers.
func halves(lo, hi int64) api.Interval {
	return span(dy(lo, -1), dy(hi, -1))
}

// quarter returns the interval between the quarters of two integers.
func quarter(lo, hi int64) api.Interval {
	return span(dy(lo, -2), dy(hi, -2))
}

// power returns 2^n.
func power(n int) *big.Int {
	return new(big.Int).Lsh(big.NewInt(1), uint(n))
}

// ones returns the number of n binary digits 1.
func ones(n int) *big.Int {
	return new(big.Int).Sub(power(n), big.NewInt(1))
}

// outer returns the number of n binary digits, at least two, of which only the first and the last one are 1.
func outer(n int) *big.Int {
	return new(big.Int).Add(power(n-1), big.NewInt(1))
}

func negative(v *big.Int) *big.Int {
	return new(big.Int).Neg(v)
}

func square(v *big.Int) *big.Int {
	return new(big.Int).Mul(v, v)
}

// plus returns v + n.
func plus(v *big.Int, n int64) *big.Int {
	return new(big.Int).Add(v, big.NewInt(n))
}

func mantissa(d api.Dyadic) *big.Int {
	return number(d.Man.Neg, d.Man.Mag)
}

// opposite returns -d, in memory of its own.
func opposite(d api.Dyadic) api.Dyadic {
	return api.Dyadic{Man: api.Int{Neg: !d.Man.Neg && len(d.Man.Mag) > 0, Mag: slices.Clone(d.Man.Mag)}, Exp: d.Exp}
}

func mirrored(a api.Interval) api.Interval {
	return span(opposite(a.Hi), opposite(a.Lo))
}

// fraction stands for num / den; den is positive. It is not in lowest terms, which would take too long for powers.
type fraction struct{ num, den *big.Int }

func frac(num, den *big.Int) fraction {
	return fraction{num, den}
}

func integral(v *big.Int) fraction {
	return frac(v, big.NewInt(1))
}

// value returns the number that d stands for.
func value(d api.Dyadic) fraction {
	if d.Exp < 0 {
		return frac(mantissa(d), power(-d.Exp))
	}
	return integral(new(big.Int).Lsh(mantissa(d), uint(d.Exp)))
}

func (x fraction) cmp(y fraction) int {
	return new(big.Int).Mul(x.num, y.den).Cmp(new(big.Int).Mul(y.num, x.den))
}

// raised returns x to the power n, for x other than zero if n is negative.
func (x fraction) raised(n int) fraction {
	if n < 0 {
		sign := big.NewInt(int64(x.num.Sign()))
		x, n = frac(new(big.Int).Mul(x.den, sign), new(big.Int).Abs(x.num)), -n
	}
	exponent := big.NewInt(int64(n))
	return frac(new(big.Int).Exp(x.num, exponent, nil), new(big.Int).Exp(x.den, exponent, nil))
}

// down returns the greatest integer that is not greater than x * 2^w.
func (x fraction) down(w int) *big.Int {
	n := new(big.Int).Lsh(x.num, uint(w))
	return n.Div(n, x.den)
}

func (x fraction) up(w int) *big.Int {
	return negative(frac(negative(x.num), x.den).down(w))
}

func same(x, y api.Dyadic) bool {
	return x.Man.Neg == y.Man.Neg && slices.Equal(x.Man.Mag, y.Man.Mag) && x.Exp == y.Exp
}

// identical reports whether two intervals are.
func identical(a, b api.Interval) bool {
	return same(a.Lo, b.Lo) && same(a.Hi, b.Hi)
}

// short returns a number in a form in which it can be printed.
func short(d api.Dyadic) string {
	text := mantissa(d).Text(16)
	if len(text) > 60 {
		text = text[:30] + ".." + text[len(text)-30:]
	}
	return text + " * 2^" + big.NewInt(int64(d.Exp)).String()
}

func shortSpan(a api.Interval) string {
	return "[" + short(a.Lo) + ", " + short(a.Hi) + "]"
}

// mantissas returns odd numbers of one to six elements, the same ones whenever it is called.
func mantissas() []*big.Int {
	var all []*big.Int
	for _, a := range [][]uint32{{1}, {3}, {5}, {1<<31 + 1}, {top}, {1, 1}, {top, 1 << 31}, {1, 0, 1}, {top, top, top}} {
		all = append(all, number(false, a))
	}
	random := rand.New(rand.NewPCG(12, 1))
	for n := 1; n <= 6; n++ {
		a := make([]uint32, n)
		for i := range a {
			a[i] = random.Uint32()
		}
		a[0] |= 1
		all = append(all, number(false, a))
	}
	return all
}

// ascending returns the dyadics in ascending order, each once.
func ascending(all []api.Dyadic) []api.Dyadic {
	compare := func(a, b api.Dyadic) int {
		return value(a).cmp(value(b))
	}
	slices.SortFunc(all, compare)
	return slices.CompactFunc(all, same)
}

// samples returns ends of small intervals with all mantissas, both signs and exponents of all kinds, even and odd ones, and zero, in ascending order.
func samples() []api.Dyadic {
	all := []api.Dyadic{{}}
	for i, man := range mantissas() {
		for j, exp := range []int{0, -1, -3, 31, -32, -101, 700, -1000, -api.MaxWork, -api.MaxWork - 1} {
			if (i+j)%4 == 0 || i < 2 {
				all = append(all, wide(man, exp), wide(negative(man), exp))
			}
		}
	}
	return ascending(all)
}

// moderate returns those of the samples whose powers are small or not too far from it.
func moderate() []api.Dyadic {
	var all []api.Dyadic
	for _, d := range samples() {
		if size := mantissa(d).BitLen() + d.Exp; size >= -70 && size <= 100 {
			all = append(all, d)
		}
	}
	return all
}

// extremes returns the ends of small intervals that are farthest from zero and closest to it, and others, in ascending order.
func extremes() []api.Dyadic {
	all := []api.Dyadic{{}}
	for _, d := range []api.Dyadic{most(), dy(1, highest-1), wide(outer(highest+finest), -finest), dy(1, 1024), dy(3, 0), dy(1, 0), dy(1, -1024), dy(3, -finest), least()} {
		all = append(all, d, opposite(d))
	}
	return ascending(all)
}

// most returns the greatest end of a small interval.
func most() api.Dyadic {
	return wide(ones(highest+finest), -finest)
}

// least returns the least end of a small interval that is positive.
func least() api.Dyadic {
	return dy(1, -finest)
}

// spans returns all intervals with ends among the given ones, which ascend, points among them.
func spans(ends []api.Dyadic) []api.Interval {
	var all []api.Interval
	for i, lo := range ends {
		for _, hi := range ends[i:] {
			all = append(all, span(lo, hi))
		}
	}
	return all
}

// every returns every n-th element of a list.
func every[T any](n int, list []T) []T {
	var all []T
	for i := n / 2; i < len(list); i += n {
		all = append(all, list[i])
	}
	return all
}

// positive returns those of the dyadics that are not negative.
func positive(all []api.Dyadic) []api.Dyadic {
	return slices.DeleteFunc(slices.Clone(all), func(d api.Dyadic) bool {
		return d.Man.Neg
	})
}

// quarters returns the dyadics from -n / 4 to n / 4.
func quarters(n int64) []api.Dyadic {
	var all []api.Dyadic
	for i := -n; i <= n; i++ {
		all = append(all, dy(i, -2))
	}
	return all
}

// outside returns working precisions that are not permitted.
func outside() []int {
	return []int{-1, -2, api.MaxWork + 1, api.MaxWork + 2, -api.MaxWork, finest, finest + 1, -highest, -highest - 1, api.MaxExponent, -api.MaxExponent, api.MaxShift, 1 << 32, -1 << 32, 1<<32 + 5, 1 << 62, -1 << 62, math.MaxInt32, math.MinInt32, math.MaxInt, math.MaxInt - 1, math.MinInt, math.MinInt + 1}
}

// outsidePowers returns exponents that are not permitted.
func outsidePowers() []int {
	return []int{api.MaxPower + 1, -api.MaxPower - 1, api.MaxPower + 2, 100, -100, api.MaxWork, 1 << 32, -1 << 32, 1<<32 + 2, math.MaxInt32, math.MinInt32, math.MaxInt, math.MaxInt - 1, math.MinInt, math.MinInt + 1}
}

// precisions returns working precisions, the least and the greatest one among them.
func precisions() []int {
	return []int{0, 1, 2, 33, 500, 1000, api.MaxWork - 1, api.MaxWork}
}

// exponents returns exponents, even and odd ones of both signs, and the least and the greatest one.
func exponents() []int {
	return []int{0, 1, -1, 2, -2, 3, -3, 4, 7, -10, 31, -33, api.MaxPower - 1, api.MaxPower, 1 - api.MaxPower, -api.MaxPower}
}

// P12.1

// checkDyadic compares a result with the one that it must be.
func checkDyadic(t *testing.T, call string, d api.Dyadic, w int, got api.Dyadic, err api.Errno, want api.Dyadic, wantErr api.Errno) {
	t.Helper()
	if err != wantErr || !same(got, want) {
		t.Errorf("%s(%s, %d) = %s, error %d, want %s, error %d", call, short(d), w, short(got), err, short(want), wantErr)
	}
}

// checkPair compares the roots of d with those that they must be.
func checkPair(t *testing.T, d api.Dyadic, w int, floor, ceil api.Dyadic) {
	t.Helper()
	got, err := radical.SqrtFloor(d, w)
	checkDyadic(t, "SqrtFloor", d, w, got, err, floor, api.OK)
	got, err = radical.SqrtCeil(d, w)
	checkDyadic(t, "SqrtCeil", d, w, got, err, ceil, api.OK)
}

// floorRoot returns the greatest multiple of 2^-w that is not greater than the root of d, which is not negative.
func floorRoot(d api.Dyadic, w int) api.Dyadic {
	return wide(new(big.Int).Sqrt(value(d).down(2*w)), -w)
}

// ceilRoot returns the least multiple of 2^-w that is not less than the root of d, which is not negative.
func ceilRoot(d api.Dyadic, w int) api.Dyadic {
	n := value(d).up(2 * w)
	root := new(big.Int).Sqrt(n)
	if square(root).Cmp(n) < 0 {
		root = plus(root, 1)
	}
	return wide(root, -w)
}

func checkRoots(t *testing.T, d api.Dyadic, w int) {
	t.Helper()
	checkPair(t, d, w, floorRoot(d, w), ceilRoot(d, w))
}

func TestRootsOfExamples(t *testing.T) {
	for _, c := range []struct {
		d           api.Dyadic
		w           int
		floor, ceil api.Dyadic
	}{
		{dy(0, 0), 0, dy(0, 0), dy(0, 0)}, {dy(0, 0), 1, dy(0, 0), dy(0, 0)}, {dy(0, 0), api.MaxWork, dy(0, 0), dy(0, 0)},
		{dy(1, 0), 0, dy(1, 0), dy(1, 0)}, {dy(1, 0), api.MaxWork, dy(1, 0), dy(1, 0)}, {dy(2, 0), 0, dy(1, 0), dy(2, 0)}, {dy(3, 0), 0, dy(1, 0), dy(2, 0)}, {dy(4, 0), 0, dy(2, 0), dy(2, 0)}, {dy(5, 0), 0, dy(2, 0), dy(3, 0)},
		{dy(15, 0), 0, dy(3, 0), dy(4, 0)}, {dy(16, 0), 0, dy(4, 0), dy(4, 0)}, {dy(17, 0), 0, dy(4, 0), dy(5, 0)},
		{dy(2, 0), 1, dy(1, 0), dy(3, -1)}, {dy(2, 0), 2, dy(5, -2), dy(6, -2)}, {dy(2, 0), 7, dy(181, -7), dy(182, -7)}, {dy(1, 3), 7, dy(362, -7), dy(363, -7)},
		{dy(1, -1), 0, dy(0, 0), dy(1, 0)}, {dy(1, -1), 1, dy(1, -1), dy(1, 0)}, {dy(1, -1), 8, dy(181, -8), dy(182, -8)}, {dy(1, -2), 0, dy(0, 0), dy(1, 0)}, {dy(1, -2), 1, dy(1, -1), dy(1, -1)}, {dy(1, -3), 1, dy(0, 0), dy(1, -1)},
		{dy(9, -4), 0, dy(0, 0), dy(1, 0)}, {dy(9, -4), 1, dy(1, -1), dy(1, 0)}, {dy(9, -4), 2, dy(3, -2), dy(3, -2)}, {dy(9, -4), 3, dy(3, -2), dy(3, -2)}, {dy(9, -3), 1, dy(1, 0), dy(3, -1)},
		{dy(1, -40), 3, dy(0, 0), dy(1, -3)}, {dy(1, -40), 19, dy(0, 0), dy(1, -19)}, {dy(1, -40), 20, dy(1, -20), dy(1, -20)}, {dy(1, -40), 21, dy(1, -20), dy(1, -20)}, {dy(3, -40), 20, dy(1, -20), dy(1, -19)},
		{dy(1, 10), 0, dy(32, 0), dy(32, 0)}, {dy(1, 11), 0, dy(45, 0), dy(46, 0)}, {dy(999, 0), 0, dy(31, 0), dy(32, 0)}, {dy(1, 2000), api.MaxWork, dy(1, 1000), dy(1, 1000)}, {least(), api.MaxWork, dy(1, -api.MaxWork), dy(1, -api.MaxWork)}, {least(), api.MaxWork - 1, dy(0, 0), dy(1, 1-api.MaxWork)},
	} {
		checkPair(t, c.d, c.w, c.floor, c.ceil)
	}
}

// A root is found by counting here.
func TestRootsOfSmallNumbers(t *testing.T) {
	for man := int64(0); man <= 260; man++ {
		for exp := -7; exp <= 4; exp++ {
			for w := 0; w <= 4; w++ {
				x := value(dy(man, exp+2*w))
				floor, ceil := int64(0), int64(0)
				for integral(big.NewInt((floor+1)*(floor+1))).cmp(x) <= 0 {
					floor++
				}
				for integral(big.NewInt(ceil*ceil)).cmp(x) < 0 {
					ceil++
				}
				checkPair(t, dy(man, exp), w, dy(floor, -w), dy(ceil, -w))
			}
		}
	}
}

func TestRoots(t *testing.T) {
	for _, d := range slices.Concat(positive(samples()), positive(extremes())) {
		for _, w := range precisions() {
			checkRoots(t, d, w)
		}
	}
}

// Squares on the grid have exact roots; the numbers next to them, as close as ends of small intervals can be, have not.
func TestRootsBesideSquares(t *testing.T) {
	for _, root := range append(mantissas(), big.NewInt(2), power(31), power(100), outer(1000), ones(1001)) {
		for _, w := range precisions() {
			units := new(big.Int).Lsh(square(root), uint(finest-2*w))
			exact := wide(root, -w)
			checkPair(t, wide(units, -finest), w, exact, exact)
			checkPair(t, wide(plus(units, 1), -finest), w, exact, wide(plus(root, 1), -w))
			if units.Cmp(big.NewInt(1)) > 0 {
				checkPair(t, wide(plus(units, -1), -finest), w, wide(plus(root, -1), -w), exact)
			}
			if 2*w+1 <= finest {
				checkRoots(t, wide(square(root), -2*w-1), w)
				checkRoots(t, wide(square(root), -2*w+1), w)
			}
		}
	}
}

// The squares of the least positive numbers of the grid, and all numbers that are far below.
func TestRootsBelowTheGrid(t *testing.T) {
	zero := dy(0, 0)
	for _, w := range precisions() {
		unit := dy(1, -w)
		checkPair(t, dy(1, -2*w), w, unit, unit)
		if w == api.MaxWork {
			continue
		}
		for _, d := range []api.Dyadic{least(), dy(3, -finest), dy(1, -2*w-1), dy(3, -2*w-2), dy(1, -2*w-2), wide(ones(finest-2*w), -finest)} {
			checkPair(t, d, w, zero, unit)
		}
	}
}

func TestRootsAtAllPrecisions(t *testing.T) {
	for w := 0; w <= api.MaxWork; w++ {
		if w > 100 && w%61 != 0 && w < api.MaxWork-5 {
			continue
		}
		for _, d := range []api.Dyadic{dy(2, 0), dy(3, 0), dy(1, -5), dy(1, -6), wide(ones(200), -70), dy(1, -2*w), dy(1, -w)} {
			checkRoots(t, d, w)
		}
	}
}

// The square of SqrtFloor is at most d, and that of the next number on the grid is greater; the square of SqrtCeil is at least d, and that of the number before is less.
func TestSquaresOfRoots(t *testing.T) {
	for i, d := range slices.Concat(positive(samples()), positive(extremes()), positive(quarters(200))) {
		w := precisions()[i%len(precisions())]
		floor, errFloor := radical.SqrtFloor(d, w)
		ceil, errCeil := radical.SqrtCeil(d, w)
		if errFloor != api.OK || errCeil != api.OK || floor.Exp < 0 && floor.Exp < -w || ceil.Exp < 0 && ceil.Exp < -w {
			t.Errorf("the roots of %s at %d are %s, error %d, and %s, error %d", short(d), w, short(floor), errFloor, short(ceil), errCeil)
			continue
		}
		// In units of 2^-w, and of 4^-w for the squares.
		low, high, x := value(floor).down(w), value(ceil).down(w), frac(value(d).down(finest), power(finest-2*w))
		if integral(square(low)).cmp(x) > 0 || integral(square(plus(low, 1))).cmp(x) <= 0 {
			t.Errorf("SqrtFloor(%s, %d) = %s", short(d), w, short(floor))
		}
		if integral(square(high)).cmp(x) < 0 || high.Sign() > 0 && integral(square(plus(high, -1))).cmp(x) >= 0 {
			t.Errorf("SqrtCeil(%s, %d) = %s", short(d), w, short(ceil))
		}
	}
}

// checkRootErrors checks that both roots of d at w are refused with this error.
func checkRootErrors(t *testing.T, d api.Dyadic, w int, want api.Errno) {
	t.Helper()
	got, err := radical.SqrtFloor(d, w)
	checkDyadic(t, "SqrtFloor", d, w, got, err, api.Dyadic{}, want)
	got, err = radical.SqrtCeil(d, w)
	checkDyadic(t, "SqrtCeil", d, w, got, err, api.Dyadic{}, want)
}

// A precision that is not permitted is refused ahead of a negative number.
func TestRefusedRoots(t *testing.T) {
	for _, d := range slices.Concat(every(3, samples()), extremes()) {
		for _, w := range outside() {
			checkRootErrors(t, d, w, api.ErrArg)
		}
		for _, w := range precisions() {
			if d.Man.Neg {
				checkRootErrors(t, d, w, api.ErrDomain)
			}
		}
	}
	for w := 0; w <= api.MaxWork; w += 16 {
		checkRootErrors(t, dy(-1, 0), w, api.ErrDomain)
		checkRootErrors(t, opposite(least()), w, api.ErrDomain)
	}
}

// P12.2

// checkSpan compares a result with the one that it must be.
func checkSpan(t *testing.T, call string, a api.Interval, w int, got api.Interval, err api.Errno, want api.Interval, wantErr api.Errno) {
	t.Helper()
	if err != wantErr || !identical(got, want) {
		t.Errorf("%s(%s) at %d = %s, error %d, want %s, error %d", call, shortSpan(a), w, shortSpan(got), err, shortSpan(want), wantErr)
	}
}

// wantedRoots returns what Sqrt must return at w, which is permitted.
func wantedRoots(a api.Interval, w int) (api.Interval, api.Errno) {
	switch {
	case a.Hi.Man.Neg:
		return api.Interval{}, api.ErrDomain
	case a.Lo.Man.Neg:
		return api.Interval{}, api.ErrUnknown
	}
	return span(floorRoot(a.Lo, w), ceilRoot(a.Hi, w)), api.OK
}

func checkSqrt(t *testing.T, a api.Interval, w int) {
	t.Helper()
	want, wantErr := wantedRoots(a, w)
	got, err := radical.Sqrt(a, w)
	checkSpan(t, "Sqrt", a, w, got, err, want, wantErr)
	if err == api.OK && !arith.Small(got) {
		t.Errorf("Sqrt(%s) at %d = %s, which is not small", shortSpan(a), w, shortSpan(got))
	}
}

func TestSqrtOfExamples(t *testing.T) {
	for _, c := range []struct {
		a    api.Interval
		w    int
		want api.Interval
		err  api.Errno
	}{
		{whole(2, 2), 1, halves(2, 3), api.OK}, {whole(2, 2), 0, whole(1, 2), api.OK}, {whole(2, 2), 7, span(dy(181, -7), dy(182, -7)), api.OK}, {whole(4, 4), 0, whole(2, 2), api.OK}, {whole(4, 4), api.MaxWork, whole(2, 2), api.OK}, {whole(1, 1), 0, whole(1, 1), api.OK},
		{whole(0, 0), 0, whole(0, 0), api.OK}, {whole(0, 0), api.MaxWork, whole(0, 0), api.OK}, {whole(0, 1), 5, whole(0, 1), api.OK}, {whole(0, 2), 1, halves(0, 3), api.OK}, {span(dy(0, 0), dy(9, -2)), 1, halves(0, 3), api.OK}, {span(dy(0, 0), least()), 3, span(dy(0, 0), dy(1, -3)), api.OK},
		{whole(1, 9), 3, whole(1, 3), api.OK}, {whole(1, 10), 0, whole(1, 4), api.OK}, {whole(2, 10), 0, whole(1, 4), api.OK}, {whole(3, 9), 0, whole(1, 3), api.OK}, {whole(5, 8), 0, whole(2, 3), api.OK}, {whole(15, 17), 0, whole(3, 5), api.OK}, {whole(15, 16), 0, whole(3, 4), api.OK}, {whole(16, 17), 0, whole(4, 5), api.OK}, {span(dy(1, -2), dy(9, -2)), 1, halves(1, 3), api.OK}, {span(dy(1, -2), dy(9, -2)), 0, whole(0, 2), api.OK},
		{whole(-1, 1), 0, api.Interval{}, api.ErrUnknown}, {whole(-1, 1), 3, api.Interval{}, api.ErrUnknown}, {whole(-1, 0), 3, api.Interval{}, api.ErrUnknown}, {whole(-7, 400), api.MaxWork, api.Interval{}, api.ErrUnknown}, {whole(-2, -1), 3, api.Interval{}, api.ErrDomain}, {whole(-1, -1), 0, api.Interval{}, api.ErrDomain}, {halves(-9, -1), api.MaxWork, api.Interval{}, api.ErrDomain},
		{whole(2, 2), -1, api.Interval{}, api.ErrArg}, {whole(-1, 1), -1, api.Interval{}, api.ErrArg}, {whole(-2, -1), -1, api.Interval{}, api.ErrArg}, {whole(-2, -1), api.MaxWork + 1, api.Interval{}, api.ErrArg}, {whole(0, 0), math.MinInt, api.Interval{}, api.ErrArg}, {whole(0, 0), math.MaxInt, api.Interval{}, api.ErrArg},
	} {
		got, err := radical.Sqrt(c.a, c.w)
		checkSpan(t, "Sqrt", c.a, c.w, got, err, c.want, c.err)
	}
}

func TestSqrtOfSmallNumbers(t *testing.T) {
	for _, a := range spans(quarters(40)) {
		for _, w := range []int{0, 1, 2, 5} {
			checkSqrt(t, a, w)
		}
	}
}

func TestSqrt(t *testing.T) {
	for i, a := range slices.Concat(spans(every(2, samples())), spans(every(2, positive(samples())))) {
		checkSqrt(t, a, precisions()[i%len(precisions())])
	}
	for _, d := range samples() {
		for _, w := range precisions() {
			checkSqrt(t, point(d), w)
		}
	}
}

// The roots of all ends of small intervals are small.
func TestSqrtOfExtremes(t *testing.T) {
	for i, a := range spans(extremes()) {
		for j, w := range precisions() {
			if (i+j)%3 == 0 {
				checkSqrt(t, a, w)
			}
		}
	}
	for _, w := range precisions() {
		for _, a := range []api.Interval{point(most()), span(dy(0, 0), most()), span(least(), most())} {
			checkSqrt(t, a, w)
			if _, err := radical.Sqrt(a, w); err != api.OK {
				t.Errorf("Sqrt(%s) at %d: error %d", shortSpan(a), w, err)
			}
		}
	}
}

// The ends of a small interval that are next to zero: negative ones are refused, however close they are.
func TestSqrtNextToZero(t *testing.T) {
	for _, w := range precisions() {
		for _, hi := range []api.Dyadic{least(), dy(1, 0), most()} {
			checkSqrt(t, span(dy(0, 0), hi), w)
			for _, lo := range []api.Dyadic{opposite(least()), dy(-1, 0), opposite(most())} {
				got, err := radical.Sqrt(span(lo, hi), w)
				checkSpan(t, "Sqrt", span(lo, hi), w, got, err, api.Interval{}, api.ErrUnknown)
				got, err = radical.Sqrt(span(lo, dy(0, 0)), w)
				checkSpan(t, "Sqrt", span(lo, dy(0, 0)), w, got, err, api.Interval{}, api.ErrUnknown)
				got, err = radical.Sqrt(span(opposite(most()), lo), w)
				checkSpan(t, "Sqrt", span(opposite(most()), lo), w, got, err, api.Interval{}, api.ErrDomain)
			}
		}
	}
}

// Squares that lie on the grid have exact roots, at this precision and at all finer ones.
func TestSqrtOfSquaresIsExact(t *testing.T) {
	var roots []api.Dyadic
	for _, man := range mantissas() {
		roots = append(roots, wide(man, 0), wide(man, -3), wide(man, -100), wide(man, 50))
	}
	for i, a := range spans(every(2, ascending(append(roots, dy(0, 0), dy(1, -api.MaxWork))))) {
		squares := span(wide(square(mantissa(a.Lo)), 2*a.Lo.Exp), wide(square(mantissa(a.Hi)), 2*a.Hi.Exp))
		coarsest := max(0, -a.Lo.Exp, -a.Hi.Exp)
		for _, w := range []int{coarsest, min(coarsest+i%40, api.MaxWork), api.MaxWork} {
			got, err := radical.Sqrt(squares, w)
			checkSpan(t, "Sqrt", squares, w, got, err, a, api.OK)
		}
	}
}

// P12.3

// enclosed returns the enclosure of the numbers from lo to hi at w, which is permitted, or the error.
func enclosed(lo, hi fraction, w int) (api.Interval, api.Errno) {
	below, above := lo.down(w), hi.up(w)
	limit := power(highest + w)
	if below.CmpAbs(limit) >= 0 || above.CmpAbs(limit) >= 0 {
		return api.Interval{}, api.ErrLarge
	}
	return span(wide(below, -w), wide(above, -w)), api.OK
}

// wantedPower returns what Power must return for n and w that are permitted.
func wantedPower(a api.Interval, n, w int) (api.Interval, api.Errno) {
	lo, hi := value(a.Lo), value(a.Hi)
	below, above := lo.num.Sign() < 0, hi.num.Sign() > 0
	switch {
	case n < 0 && lo.num.Sign() == 0 && hi.num.Sign() == 0:
		return api.Interval{}, api.ErrZero
	case n < 0 && lo.num.Sign() <= 0 && hi.num.Sign() >= 0:
		return api.Interval{}, api.ErrUnknown
	}
	if n < 0 {
		lo, hi, n = hi.raised(-1), lo.raised(-1), -n
	}
	lo, hi = lo.raised(n), hi.raised(n)
	if n%2 == 0 && below {
		lo, hi = hi, lo
		if above {
			hi = slices.MaxFunc([]fraction{lo, hi}, fraction.cmp)
			lo = integral(big.NewInt(0)).raised(n)
		}
	}
	return enclosed(lo, hi, w)
}

func powerText(n int) string {
	return "Power to " + big.NewInt(int64(n)).String()
}

func checkPower(t *testing.T, a api.Interval, n, w int) {
	t.Helper()
	want, wantErr := wantedPower(a, n, w)
	got, err := radical.Power(a, n, w)
	checkSpan(t, powerText(n), a, w, got, err, want, wantErr)
	if err == api.OK && !arith.Small(got) {
		t.Errorf("%s of %s at %d is %s, which is not small", powerText(n), shortSpan(a), w, shortSpan(got))
	}
}

// powerCase is a call of Power with its result.
type powerCase struct {
	a    api.Interval
	n, w int
	want api.Interval
}

func checkPowerCases(t *testing.T, cases []powerCase) {
	t.Helper()
	for _, c := range cases {
		got, err := radical.Power(c.a, c.n, c.w)
		checkSpan(t, powerText(c.n), c.a, c.w, got, err, c.want, api.OK)
	}
}

func TestPowerOfExamples(t *testing.T) {
	checkPowerCases(t, []powerCase{
		{whole(-1, 2), 2, 0, whole(0, 4)}, {whole(-3, 2), 2, 0, whole(0, 9)}, {whole(-3, 3), 2, 5, whole(0, 9)}, {whole(-3, -2), 2, 0, whole(4, 9)}, {whole(2, 3), 2, 0, whole(4, 9)}, {whole(0, 3), 2, 0, whole(0, 9)}, {whole(-3, 0), 2, 0, whole(0, 9)}, {whole(0, 0), 2, 0, whole(0, 0)},
		{whole(-2, 3), 3, 0, whole(-8, 27)}, {whole(-3, -2), 3, 0, whole(-27, -8)}, {whole(2, 3), 3, 0, whole(8, 27)}, {whole(0, 3), 3, 0, whole(0, 27)}, {whole(-3, 0), 3, 0, whole(-27, 0)}, {whole(0, 0), 3, 0, whole(0, 0)}, {whole(-2, 1), 4, 0, whole(0, 16)}, {whole(-10, 10), 5, 9, whole(-100000, 100000)},
		{whole(2, 3), -1, 2, quarter(1, 2)}, {whole(2, 3), -1, 0, whole(0, 1)}, {whole(-3, -2), -1, 2, quarter(-2, -1)}, {whole(-3, -2), -2, 2, quarter(0, 1)}, {whole(2, 3), -2, 2, quarter(0, 1)}, {whole(2, 4), -2, 4, span(dy(1, -4), dy(1, -2))}, {whole(-4, -2), -2, 4, span(dy(1, -4), dy(1, -2))}, {whole(-4, -2), -3, 6, span(dy(-1, -3), dy(-1, -6))}, {whole(2, 4), -3, 6, span(dy(1, -6), dy(1, -3))}, {halves(1, 4), -1, 1, halves(1, 4)}, {halves(-4, -1), -1, 1, halves(-4, -1)},
		{halves(1, 1), 3, 3, point(dy(1, -3))}, {halves(1, 1), 3, 2, quarter(0, 1)}, {halves(-1, -1), 3, 2, quarter(-1, 0)}, {halves(1, 1), 64, 3, span(dy(0, 0), dy(1, -3))}, {halves(1, 1), 64, 64, point(dy(1, -64))}, {halves(1, 1), -64, 0, point(dy(1, 64))}, {halves(-1, -1), -63, 0, point(dy(-1, 63))}, {halves(-1, -1), 63, 63, point(dy(-1, -63))}, {halves(3, 3), 2, 1, halves(4, 5)}, {halves(3, 3), 2, 2, quarter(9, 9)}, {halves(-3, -3), 3, 0, whole(-4, -3)}, {halves(-1, 3), 2, 1, halves(0, 5)},
		{whole(3, 3), -1, 2, quarter(1, 2)}, {whole(-3, -3), -1, 2, quarter(-2, -1)}, {whole(10, 10), 20, 7, point(wide(new(big.Int).Exp(big.NewInt(10), big.NewInt(20), nil), 0))}, {whole(-1, 1), 63, 0, whole(-1, 1)}, {whole(-1, 1), 64, 0, whole(0, 1)}, {whole(-1, -1), -64, 0, whole(1, 1)}, {whole(-1, -1), -63, 0, whole(-1, -1)},
	})
}

func TestPowerOfSmallNumbers(t *testing.T) {
	for _, a := range spans(quarters(10)) {
		for n := -9; n <= 9; n++ {
			for _, w := range []int{0, 1, 4, 9} {
				checkPower(t, a, n, w)
			}
		}
	}
}

func TestPower(t *testing.T) {
	for i, a := range spans(every(2, moderate())) {
		for j, n := range exponents() {
			checkPower(t, a, n, precisions()[(i+j)%len(precisions())])
		}
	}
}

func TestPowerWithAllExponents(t *testing.T) {
	all := []api.Interval{
		quarter(5, 7), quarter(-7, -5), quarter(-5, 7), quarter(-7, 5), quarter(0, 5), quarter(-5, 0), whole(0, 0), whole(1, 1), whole(-1, 1), point(dy(-3, 0)),
		span(wide(ones(100), -99), wide(outer(100), -97)), span(wide(outer(50), -80), wide(ones(40), -30)), span(wide(negative(ones(60)), -61), dy(1, -20)),
	}
	for i, a := range all {
		for n := -api.MaxPower; n <= api.MaxPower; n++ {
			checkPower(t, a, n, precisions()[(i+n+api.MaxPower)%len(precisions())])
			checkPower(t, mirrored(a), n, precisions()[(i+3*n+3*api.MaxPower)%len(precisions())])
		}
	}
}

func TestPowerOfPoints(t *testing.T) {
	for i, d := range samples() {
		for j, n := range exponents() {
			if (i+j)%3 == 0 {
				checkPower(t, point(d), n, precisions()[(i+j)%len(precisions())])
			}
		}
	}
}

func TestPowerAtAllPrecisions(t *testing.T) {
	for w := 0; w <= api.MaxWork; w++ {
		if w > 100 && w%61 != 0 && w < api.MaxWork-5 {
			continue
		}
		for _, n := range []int{0, 1, 2, 5, -1, -4} {
			checkPower(t, span(wide(negative(outer(w+2)), -w-1), dy(-3, -3)), n, w)
			checkPower(t, span(wide(negative(ones(w+1)), -w-1), wide(outer(w+2), -w)), n, w)
		}
	}
}

// Every number to the power 0 is 1: zero, too, and whatever else the interval contains.
func TestPowerZero(t *testing.T) {
	for _, a := range slices.Concat(spans(every(4, samples())), spans(extremes()), spans(quarters(3))) {
		for _, w := range []int{0, 7, api.MaxWork} {
			got, err := radical.Power(a, 0, w)
			checkSpan(t, powerText(0), a, w, got, err, whole(1, 1), api.OK)
		}
	}
}

// The power 1 is the interval, rounded outward, and the power -1 a quotient.
func TestPowerOne(t *testing.T) {
	for i, a := range slices.Concat(spans(every(4, samples())), spans(extremes()), spans(quarters(8))) {
		w := precisions()[i%len(precisions())]
		want, wantErr := arith.Add(a, whole(0, 0), w)
		got, err := radical.Power(a, 1, w)
		checkSpan(t, powerText(1), a, w, got, err, want, wantErr)
		want, wantErr = arith.Div(whole(1, 1), a, w)
		got, err = radical.Power(a, -1, w)
		checkSpan(t, powerText(-1), a, w, got, err, want, wantErr)
	}
}

// An even power of an interval that contains zero begins at 0, as the product of the interval and itself does not; an odd one begins at that of its lower end.
func TestPowersAroundZero(t *testing.T) {
	zero := dy(0, 0)
	for _, lo := range []api.Dyadic{zero, opposite(least()), dy(-1, -70), dy(-1, 0), dy(-7, 2), dy(-1, 31)} {
		for _, hi := range []api.Dyadic{zero, least(), dy(3, -80), dy(1, 0), dy(9, 1), dy(1, 31)} {
			for n := 2; n <= api.MaxPower; n += 2 {
				for _, w := range []int{0, 90, api.MaxWork} {
					a := span(lo, hi)
					checkPower(t, a, n, w)
					checkPower(t, a, n-1, w)
					if got, _ := radical.Power(a, n, w); !same(got.Lo, zero) {
						t.Errorf("%s of %s at %d is %s", powerText(n), shortSpan(a), w, shortSpan(got))
					}
				}
			}
		}
	}
}

// Zero has no negative power, and intervals that contain it are refused; others are not, however close they come.
func TestNegativePowersOfZero(t *testing.T) {
	zero := dy(0, 0)
	around := []api.Interval{whole(0, 1), whole(-1, 0), whole(-1, 1), whole(-7, 2), span(zero, least()), span(opposite(least()), zero), span(opposite(least()), least()), span(zero, most()), span(opposite(most()), zero), span(opposite(most()), most())}
	for n := -api.MaxPower; n < 0; n++ {
		for _, w := range precisions() {
			got, err := radical.Power(whole(0, 0), n, w)
			checkSpan(t, powerText(n), whole(0, 0), w, got, err, api.Interval{}, api.ErrZero)
			for _, a := range around {
				got, err := radical.Power(a, n, w)
				checkSpan(t, powerText(n), a, w, got, err, api.Interval{}, api.ErrUnknown)
			}
		}
		checkPower(t, span(dy(1, -31), dy(1, 0)), n, 70)
		checkPower(t, span(dy(-1, 0), dy(-1, -31)), n, 70)
	}
	for _, n := range []int{0, 1, 2, api.MaxPower - 1, api.MaxPower} {
		for _, w := range precisions() {
			checkPower(t, whole(0, 0), n, w)
			checkPower(t, span(zero, least()), n, w)
			checkPower(t, span(opposite(least()), zero), n, w)
		}
	}
}

func TestPowersOfExtremes(t *testing.T) {
	for i, a := range spans(extremes()) {
		for j, n := range []int{0, 1, -1, 2, -2, 3, -5} {
			checkPower(t, a, n, precisions()[(i+j)%len(precisions())])
		}
		// These take longer.
		if i%17 == 0 {
			n := []int{api.MaxPower, -api.MaxPower, api.MaxPower - 1}[i/17%3]
			checkPower(t, a, n, precisions()[i%len(precisions())])
		}
	}
}

// Powers that are just less than 2^MaxMagnitude, and small, and ones that are not, or that are rounded to it.
func TestPowersAtTheLimit(t *testing.T) {
	half, below, just := dy(1, highest/2), wide(ones(highest/2), 0), wide(ones(highest/2+api.MaxWork), -api.MaxWork)
	root, small, close := dy(1, 32), wide(ones(32), 0), wide(ones(32+2100), -2100)
	reciprocal := wide(outer(4000-31), -4000)
	for _, c := range []struct {
		name string
		a    api.Interval
		n, w int
		want api.Errno
	}{
		{"the square of the root", point(half), 2, 0, api.ErrLarge}, {"less", point(below), 2, 0, api.OK}, {"just less, rounded", point(just), 2, 0, api.ErrLarge}, {"just less", point(just), 2, api.MaxWork, api.OK}, {"the upper end only", span(dy(0, 0), half), 2, 0, api.ErrLarge}, {"the lower end only", span(opposite(half), dy(1, 0)), 2, 0, api.ErrLarge}, {"neither", span(opposite(below), below), 2, 0, api.OK},
		{"the power 64 of the root", point(root), api.MaxPower, api.MaxWork, api.ErrLarge}, {"less to the power 64", point(small), api.MaxPower, 0, api.OK}, {"just less to the power 64", point(close), api.MaxPower, 100, api.OK}, {"just less to the power 64, rounded", point(close), api.MaxPower, 50, api.ErrLarge}, {"the power 63", point(root), api.MaxPower - 1, 0, api.OK}, {"much more", point(dy(1, 40)), api.MaxPower, 0, api.ErrLarge}, {"the greatest to the power 64", point(most()), api.MaxPower, api.MaxWork, api.ErrLarge},
		{"the greatest", point(most()), 1, api.MaxWork, api.ErrLarge}, {"the greatest integer", point(wide(ones(highest), 0)), 1, 0, api.OK}, {"the greatest multiple", point(wide(ones(highest+api.MaxWork), -api.MaxWork)), 1, api.MaxWork, api.OK}, {"the greatest, to the power 0", point(most()), 0, 0, api.OK},
		{"a cube", point(dy(1, 682)), 3, 0, api.OK}, {"a cube that is larger", point(dy(1, 683)), 3, 0, api.ErrLarge}, {"the upper cube only", span(dy(-1, 0), dy(1, 683)), 3, 0, api.ErrLarge}, {"the lower cube only", span(dy(-1, 683), dy(1, 0)), 3, 0, api.ErrLarge}, {"neither cube", span(dy(-1, 682), dy(1, 682)), 3, 0, api.OK},
		{"the reciprocal of the least", point(least()), -1, 0, api.ErrLarge}, {"the reciprocal", point(dy(1, -highest)), -1, 0, api.ErrLarge}, {"a reciprocal that is less", point(dy(1, 1-highest)), -1, 0, api.OK}, {"a reciprocal that is just less", point(wide(outer(finest-highest+1), -finest)), -1, 0, api.ErrLarge}, {"a third less", point(dy(3, -1-highest)), -1, 0, api.OK}, {"of one end only", span(dy(1, -highest), dy(1, 0)), -1, 0, api.ErrLarge}, {"of no end", span(dy(1, 1-highest), dy(1, 0)), -1, 0, api.OK},
		{"the power -64", point(dy(1, -32)), -api.MaxPower, 0, api.ErrLarge}, {"the power -63", point(dy(1, -32)), 1 - api.MaxPower, 0, api.OK}, {"the power -64 that is less", point(dy(1, -31)), -api.MaxPower, 0, api.OK}, {"the power -64 of a wide one", span(dy(1, -40), dy(1, 0)), -api.MaxPower, 0, api.ErrLarge}, {"just less, to -64", point(reciprocal), -api.MaxPower, api.MaxWork, api.OK}, {"just less, to -64, rounded", point(reciprocal), -api.MaxPower, 0, api.ErrLarge}, {"the greatest to the power -64", point(most()), -api.MaxPower, api.MaxWork, api.OK},
	} {
		checkPower(t, c.a, c.n, c.w)
		checkPower(t, mirrored(c.a), c.n, c.w)
		if _, err := radical.Power(c.a, c.n, c.w); err != c.want {
			t.Errorf("%s: error %d", c.name, err)
		}
	}
}

// What is not permitted is refused ahead of any other error: of zero, of an interval that contains it, and of a power that is too large.
func TestRefusedPowers(t *testing.T) {
	all := []api.Interval{whole(0, 0), whole(0, 1), whole(-1, 0), whole(-1, 1), whole(1, 2), whole(-2, -1), point(least()), point(most()), span(opposite(most()), most())}
	for _, a := range all {
		for _, w := range outside() {
			for _, n := range append(exponents(), outsidePowers()...) {
				got, err := radical.Power(a, n, w)
				checkSpan(t, powerText(n), a, w, got, err, api.Interval{}, api.ErrArg)
			}
			got, err := radical.Sqrt(a, w)
			checkSpan(t, "Sqrt", a, w, got, err, api.Interval{}, api.ErrArg)
		}
		for _, w := range precisions() {
			for _, n := range outsidePowers() {
				got, err := radical.Power(a, n, w)
				checkSpan(t, powerText(n), a, w, got, err, api.Interval{}, api.ErrArg)
			}
		}
	}
}

// Consequences of the definition of enclosures

// within returns numbers of an interval that small intervals may end at: both ends, the middle, one just beside each end, and zero.
func within(a api.Interval) []api.Dyadic {
	lo, hi := value(a.Lo).down(finest), value(a.Hi).down(finest)
	middle := new(big.Int).Add(lo, hi)
	all := []api.Dyadic{a.Lo, a.Hi, wide(middle.Rsh(middle, 1), -finest)}
	if lo.Cmp(hi) < 0 {
		all = append(all, wide(plus(lo, 1), -finest), wide(plus(hi, -1), -finest))
	}
	if lo.Sign() < 0 && hi.Sign() > 0 {
		all = append(all, dy(0, 0))
	}
	return all
}

// The powers of the numbers of an interval lie in its power, and the least and the greatest of them less than 2^-w away from its ends.
func TestPowersContainNumbers(t *testing.T) {
	for i, a := range slices.Concat(spans(every(6, moderate())), spans(quarters(6))) {
		n, w := exponents()[i%10], []int{0, 1, 3, 70, 1000}[i/10%5]
		result, err := radical.Power(a, n, w)
		if err != api.OK {
			checkPower(t, a, n, w)
			continue
		}
		var powers []fraction
		for _, d := range within(a) {
			powers = append(powers, value(d).raised(n))
		}
		low, high := slices.MinFunc(powers, fraction.cmp), slices.MaxFunc(powers, fraction.cmp)
		below, above := value(result.Lo).down(w), value(result.Hi).down(w)
		if low.down(w).Cmp(below) != 0 || high.up(w).Cmp(above) != 0 {
			t.Errorf("%s of %s at %d is %s", powerText(n), shortSpan(a), w, shortSpan(result))
		}
	}
}

// The results for the numbers of an interval, at the same precision and at a finer one, lie within its result.
func TestSmallerArguments(t *testing.T) {
	for i, a := range slices.Concat(spans(every(5, moderate())), spans(quarters(6))) {
		w := i % 6
		for _, d := range within(a) {
			for _, finer := range []int{w, 2*w + 1} {
				larger, err := radical.Sqrt(a, w)
				smaller, errSmaller := radical.Sqrt(point(d), finer)
				if err == api.OK && (errSmaller != api.OK || !interval.Within(smaller, larger)) {
					t.Errorf("Sqrt(%s) at %d = %s, error %d, which is not within %s", short(d), finer, shortSpan(smaller), errSmaller, shortSpan(larger))
				}
				n := exponents()[i%10]
				larger, err = radical.Power(a, n, w)
				smaller, errSmaller = radical.Power(point(d), n, finer)
				if err == api.OK && (errSmaller != api.OK || !interval.Within(smaller, larger)) {
					t.Errorf("%s of %s at %d is %s, error %d, which is not within %s", powerText(n), short(d), finer, shortSpan(smaller), errSmaller, shortSpan(larger))
				}
			}
		}
	}
}
