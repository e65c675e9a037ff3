package constant_test

import (
	"encoding/binary"
	"math"
	"math/big"
	"slices"
	"strings"
	"testing"

	"exactreal/api"
	"exactreal/constant"
	"exactreal/interval"
)

const (
	top = math.MaxUint32
	// most is the greatest working precision of the constants.
	most = api.MaxWork + 128
	// places is the number of binary digits behind the point to which the tests know the constants.
	places = most + 200
)

// number returns the number that a sign and a list stand for, whether they are valid or not.
func number(neg bool, a []uint32) *big.Int {
	var digits []byte
	for _, word := range slices.Backward(a) {
		digits = binary.BigEndian.AppendUint32(digits, word)
	}
	v := new(big.Int).SetBytes(digits)
	if neg {
		v.Neg(v)
	}
	return v
}

// elements returns the natural of the absolute value of v, made without the packages of the project.
func elements(v *big.Int) []uint32 {
	var a []uint32
	digits := v.FillBytes(make([]byte, (v.BitLen()+31)/32*4))
	for i := len(digits); i > 0; i -= 4 {
		a = append(a, binary.BigEndian.Uint32(digits[i-4:]))
	}
	return a
}

// wide returns the dyadic of man * 2^exp, made without the packages of the project, which must be in range.
func wide(man *big.Int, exp int) api.Dyadic {
	if man.Sign() == 0 {
		return api.Dyadic{}
	}
	zeros := int(man.TrailingZeroBits())
	odd := new(big.Int).Rsh(man, uint(zeros))
	return api.Dyadic{Man: api.Int{Neg: man.Sign() < 0, Mag: elements(odd)}, Exp: exp + zeros}
}

func dy(man int64, exp int) api.Dyadic {
	return wide(big.NewInt(man), exp)
}

// span returns the interval from lo to hi, whether it is valid or not.
func span(lo, hi api.Dyadic) api.Interval {
	return api.Interval{Lo: lo, Hi: hi}
}

func point(d api.Dyadic) api.Interval {
	return span(d, d)
}

// whole returns the interval between two integers.
func whole(lo, hi int64) api.Interval {
	return span(dy(lo, 0), dy(hi, 0))
}

// units returns the interval from man * 2^-w to n * 2^-w more.
func units(man *big.Int, n int64, w int) api.Interval {
	return span(wide(man, -w), wide(plus(man, n), -w))
}

// power returns 2^n.
func power(n int) *big.Int {
	return new(big.Int).Lsh(big.NewInt(1), uint(n))
}

// ones returns the number of n binary digits 1.
func ones(n int) *big.Int {
	return plus(power(n), -1)
}

// outer returns the number of n binary digits, at least two, of which only the first and the last one are 1.
func outer(n int) *big.Int {
	return plus(power(n-1), 1)
}

func negative(v *big.Int) *big.Int {
	return new(big.Int).Neg(v)
}

// plus returns v + n.
func plus(v *big.Int, n int64) *big.Int {
	return new(big.Int).Add(v, big.NewInt(n))
}

func mantissa(d api.Dyadic) *big.Int {
	return number(d.Man.Neg, d.Man.Mag)
}

// isValid reports whether d is valid.
func isValid(d api.Dyadic) bool {
	n := len(d.Man.Mag)
	if n == 0 {
		return !d.Man.Neg && d.Exp == 0
	}
	isOdd := d.Man.Mag[0]%2 == 1
	isInRange := -api.MaxExponent <= d.Exp && d.Exp <= api.MaxExponent && mantissa(d).BitLen() <= api.MaxBits
	return d.Man.Mag[n-1] != 0 && isOdd && isInRange
}

// scaled returns d in units of 2^-p, and whether it is an integer then; d must be valid.
func scaled(d api.Dyadic, p int) (*big.Int, bool) {
	if d.Exp+p < 0 {
		return nil, mantissa(d).Sign() == 0
	}
	return new(big.Int).Lsh(mantissa(d), uint(d.Exp+p)), true
}

// isTight reports whether a is tight at w, which is permitted.
func isTight(a api.Interval, w int) bool {
	if !isValid(a.Lo) || !isValid(a.Hi) {
		return false
	}
	lo, isOnLo := scaled(a.Lo, w)
	hi, isOnHi := scaled(a.Hi, w)
	if !isOnLo || !isOnHi {
		return false
	}
	width := new(big.Int).Sub(hi, lo)
	return width.Sign() >= 0 && width.Cmp(big.NewInt(2)) <= 0
}

func same(x, y api.Dyadic) bool {
	return x.Man.Neg == y.Man.Neg && slices.Equal(x.Man.Mag, y.Man.Mag) && x.Exp == y.Exp
}

// identical reports whether two intervals are.
func identical(a, b api.Interval) bool {
	return same(a.Lo, b.Lo) && same(a.Hi, b.Hi)
}

// short returns a number in a form in which it can be printed.
func short(d api.Dyadic) string {
	text := mantissa(d).Text(16)
	if len(text) > 60 {
		text = text[:30] + ".." + text[len(text)-30:]
	}
	return text + " * 2^" + big.NewInt(int64(d.Exp)).String()
}

func shortSpan(a api.Interval) string {
	return "[" + short(a.Lo) + ", " + short(a.Hi) + "]"
}

// constants returns the functions of the package that return a constant, by their names.
func constants() map[string]func(w int) (api.Interval, api.Errno) {
	return map[string]func(w int) (api.Interval, api.Errno){"Pi": constant.Pi, "E": constant.E, "Ln2": constant.Ln2}
}

// digits returns the first hundred decimal digits behind the point of each constant, and those before it.
func digits() map[string]string {
	return map[string]string{
		"Pi":  "3.1415926535897932384626433832795028841971693993751058209749445923078164062862089986280348253421170679",
		"E":   "2.7182818284590452353602874713526624977572470936999595749669676277240766303535475945713821785251664274",
		"Ln2": "0.6931471805599453094172321214581765680755001343602552541206800094933936219696947156058633269964186875",
	}
}

// known returns the greatest integers that are not greater than the constants * 2^places, found by other series than those of the package.
func known() map[string]*big.Int {
	// The series are summed with 100 digits more, since each term loses less than one unit.
	all := map[string]*big.Int{"Pi": sumPi(places + 100), "E": sumE(places + 100), "Ln2": sumLn2(places + 100)}
	for _, n := range all {
		n.Rsh(n, 100)
	}
	return all
}

// sumPi uses the formula of Stormer: pi / 4 = 44 atan(1/57) + 7 atan(1/239) - 12 atan(1/682) + 24 atan(1/12943).
func sumPi(precision int) *big.Int {
	total := new(big.Int)
	for _, part := range [][2]int64{{44, 57}, {7, 239}, {-12, 682}, {24, 12943}} {
		term := new(big.Int).Mul(big.NewInt(4*part[0]), power(precision))
		term.Quo(term, big.NewInt(part[1]))
		for k := int64(0); term.Sign() != 0; k++ {
			total.Add(total, new(big.Int).Quo(term, big.NewInt(2*k+1)))
			term.Quo(term, big.NewInt(-part[1]*part[1]))
		}
	}
	return total
}

// sumE divides the number of all arrangements of any of n things by n!.
func sumE(precision int) *big.Int {
	arrangements, factorial := big.NewInt(1), big.NewInt(1)
	for k := int64(1); factorial.BitLen() <= precision; k++ {
		arrangements.Mul(arrangements, big.NewInt(k))
		arrangements.Add(arrangements, big.NewInt(1))
		factorial.Mul(factorial, big.NewInt(k))
	}
	arrangements.Lsh(arrangements, uint(precision))
	return arrangements.Quo(arrangements, factorial)
}

// sumLn2 adds all 1 / (k * 2^k).
func sumLn2(precision int) *big.Int {
	total := new(big.Int)
	for k := 1; k <= precision; k++ {
		total.Add(total, new(big.Int).Quo(power(precision-k), big.NewInt(int64(k))))
	}
	return total
}

// outside returns working precisions that are not permitted.
func outside() []int {
	return []int{-1, most + 1, -2, most + 2, -most, 2 * api.MaxWork, 2*api.MaxWork + 1, -api.MaxMagnitude, -api.MaxMagnitude - 1, api.MaxExponent, -api.MaxExponent, api.MaxShift, -api.MaxShift, 1 << 32, -1 << 32, 1<<32 + 5, 1 << 62, -1 << 62, math.MaxInt32, math.MinInt32, math.MaxInt, math.MaxInt - 1, math.MinInt, math.MinInt + 1}
}

// precisions returns working precisions, the least and the greatest ones among them.
func precisions() []int {
	all := []int{511, 512, 513, 1000, 1023, 1024, 1025, 2047, 2048, 2049, 3000, api.MaxWork - 1, api.MaxWork, api.MaxWork + 1, api.MaxWork + 2, api.MaxWork + 64, most - 1, most}
	for w := 0; w <= 200; w++ {
		all = append(all, w)
	}
	for w := 201; w < most; w += 131 {
		all = append(all, w)
	}
	return all
}

// P13.1

// checkConstant checks that a is tight at w and contains the number that is more than n and less than n + 1 units of 2^-places.
func checkConstant(t *testing.T, name string, w int, a api.Interval, err api.Errno, n *big.Int) {
	t.Helper()
	if err != api.OK || !isTight(a, w) {
		t.Errorf("%s(%d) = %s, error %d: not tight", name, w, shortSpan(a), err)
		return
	}
	lo, _ := scaled(a.Lo, places)
	hi, _ := scaled(a.Hi, places)
	if lo.Cmp(n) > 0 || hi.Cmp(n) <= 0 {
		t.Errorf("%s(%d) = %s does not contain the number", name, w, shortSpan(a))
	}
}

// The numbers that the other tests compare with begin with digits that are well known.
func TestKnownDigits(t *testing.T) {
	for name, n := range known() {
		text := digits()[name]
		decimals := len(text) - strings.Index(text, ".") - 1
		scale := new(big.Int).Exp(big.NewInt(10), big.NewInt(int64(decimals)), nil)
		found := new(big.Int).Rsh(new(big.Int).Mul(n, scale), places)
		want, _ := new(big.Int).SetString(strings.Replace(text, ".", "", 1), 10)
		if found.Cmp(want) != 0 {
			t.Errorf("%s begins with %s, want %s", name, found, want)
		}
	}
}

func TestConstants(t *testing.T) {
	numbers := known()
	for name, f := range constants() {
		for _, w := range precisions() {
			a, err := f(w)
			checkConstant(t, name, w, a, err, numbers[name])
		}
	}
}

// closest returns the precisions w at which the number n * 2^-places is closest to the grid, in units of it: those where most binary digits behind the w-th one are equal.
func closest(n *big.Int, count int) []int {
	run := func(w int) int {
		at := places - w - 1
		length := 1
		for length <= at && n.Bit(at-length) == n.Bit(at) {
			length++
		}
		return length
	}
	var all []int
	for w := 0; w <= most; w++ {
		all = append(all, w)
	}
	slices.SortStableFunc(all, func(v, w int) int { return run(w) - run(v) })
	return all[:count]
}

// Where a number is very close to the grid, an error that is not allowed for would put it outside of the interval.
func TestConstantsCloseToTheGrid(t *testing.T) {
	for name, n := range known() {
		for _, w := range closest(n, 25) {
			a, err := constants()[name](w)
			checkConstant(t, name, w, a, err, n)
		}
	}
}

// At precision 0, an interval has one of few forms: it contains the integers on both sides of the number, and at most one more.
func TestConstantsAtPrecisionZero(t *testing.T) {
	for name, below := range map[string]int64{"Pi": 3, "E": 2, "Ln2": 0} {
		a, err := constants()[name](0)
		forms := []api.Interval{whole(below, below+1), whole(below-1, below+1), whole(below, below+2)}
		isForm := func(form api.Interval) bool { return identical(a, form) }
		if err != api.OK || !slices.ContainsFunc(forms, isForm) {
			t.Errorf("%s(0) = %s, error %d", name, shortSpan(a), err)
		}
	}
}

func TestConstantsAtPrecisionsOutside(t *testing.T) {
	for name, f := range constants() {
		for _, w := range outside() {
			if a, err := f(w); err != api.ErrArg || !identical(a, api.Interval{}) {
				t.Errorf("%s(%d) = %s, error %d", name, w, shortSpan(a), err)
			}
		}
	}
}

// Two results for different precisions have numbers in common; those of two constants have none from some precision on.
func TestConsequences(t *testing.T) {
	ws := []int{0, 1, 2, 3, 4, 5, 6, 8, 31, 32, 33, 64, 100, 300, 1000, api.MaxWork, api.MaxWork + 1, most}
	results := map[string][]api.Interval{}
	for name, f := range constants() {
		for _, w := range ws {
			a, _ := f(w)
			results[name] = append(results[name], a)
		}
	}
	for name, all := range results {
		for other, others := range results {
			for i, a := range all {
				for j, b := range others {
					isFine := ws[i] > 4 && ws[j] > 4
					_, meets := interval.Meet(a, b)
					if other == name && !meets || other != name && isFine && meets {
						t.Errorf("%s and %s: %s and %s", name, other, shortSpan(a), shortSpan(b))
					}
				}
			}
		}
	}
}

// checkTight compares what Tight returns with what it must.
func checkTight(t *testing.T, a api.Interval, w int, want bool) {
	t.Helper()
	if got := constant.Tight(a, w); got != want {
		t.Errorf("Tight(%s, %d) = %t", shortSpan(a), w, got)
	}
}

// tightPrecisions returns working precisions for Tight.
func tightPrecisions() []int {
	return []int{0, 1, 2, 31, 32, 33, 100, api.MaxWork, api.MaxWork + 1, most - 1, most}
}

// starts returns multiples of a unit, at which intervals begin.
func starts() []*big.Int {
	var all []*big.Int
	for n := int64(-9); n <= 9; n++ {
		all = append(all, big.NewInt(n))
	}
	for _, n := range []*big.Int{ones(31), ones(32), power(32), ones(33), outer(64), power(500), ones(api.MaxWork), power(api.MaxWork + 1), outer(most), ones(20000)} {
		all = append(all, n, plus(n, -1), negative(n), plus(negative(n), -1))
	}
	return all
}

func TestTightOfExamples(t *testing.T) {
	for _, c := range []struct {
		a    api.Interval
		w    int
		want bool
	}{
		{whole(0, 1), 0, true}, {whole(0, 1), 1, true}, {whole(0, 1), 2, false}, {whole(0, 2), 0, true}, {whole(0, 2), 1, false}, {whole(0, 3), 0, false}, {whole(3, 4), 0, true}, {whole(2, 4), 0, true}, {whole(3, 5), 0, true}, {whole(2, 5), 0, false},
		{whole(-1, 1), 0, true}, {whole(-1, 1), 1, false}, {whole(-2, 0), 0, true}, {whole(-2, 1), 0, false}, {whole(0, 0), 0, true}, {whole(0, 0), most, true}, {whole(7, 7), 5, true},
		{span(dy(0, 0), dy(1, -1)), 0, false}, {span(dy(0, 0), dy(1, -1)), 1, true}, {span(dy(0, 0), dy(1, -1)), 2, true}, {span(dy(0, 0), dy(1, -1)), 3, false}, {span(dy(0, 0), dy(1, -2)), 1, false},
		{span(dy(-1, -1), dy(0, 0)), 0, false}, {span(dy(1, -1), dy(1, 0)), 0, false}, {span(dy(1, -1), dy(3, -1)), 0, false}, {span(dy(1, -1), dy(3, -1)), 1, true}, {point(dy(1, -1)), 0, false}, {point(dy(1, -1)), 1, true},
		{whole(1, 0), 0, false}, {whole(1, 0), 1, false}, {whole(1, -1), 0, false}, {whole(5, 3), 0, false}, {whole(0, 0), -1, false}, {whole(0, 0), most + 1, false},
	} {
		checkTight(t, c.a, c.w, c.want)
	}
}

func TestTight(t *testing.T) {
	for _, w := range tightPrecisions() {
		for _, n := range starts() {
			for count := int64(-3); count <= 4; count++ {
				checkTight(t, units(n, count, w), w, 0 <= count && count <= 2)
			}
		}
	}
}

// Intervals that are narrow enough, but have an end, or two, that is a half or a lesser part of a unit away from the grid.
func TestTightOffTheGrid(t *testing.T) {
	for _, w := range tightPrecisions() {
		for _, finer := range []int{1, 2, 32, 1000} {
			one := power(finer)
			for _, n := range starts() {
				lo := new(big.Int).Mul(n, one)
				hi := new(big.Int).Add(lo, one)
				at := func(man *big.Int) api.Dyadic { return wide(man, -w-finer) }
				checkTight(t, span(at(lo), at(hi)), w, true)
				checkTight(t, span(at(plus(lo, 1)), at(hi)), w, false)
				checkTight(t, span(at(plus(lo, -1)), at(hi)), w, false)
				checkTight(t, span(at(lo), at(plus(hi, 1))), w, false)
				checkTight(t, span(at(lo), at(plus(hi, -1))), w, false)
				checkTight(t, span(at(plus(lo, 1)), at(plus(hi, 1))), w, false)
				checkTight(t, point(at(plus(lo, 1))), w, false)
				checkTight(t, span(at(lo), at(plus(new(big.Int).Add(hi, one), 1))), w, false)
				checkTight(t, span(at(lo), at(plus(new(big.Int).Add(hi, one), -1))), w, false)
			}
		}
	}
}

// Every small interval at every small precision, compared with the definition.
func TestTightOfSmallIntervals(t *testing.T) {
	for lo := int64(-12); lo <= 12; lo++ {
		for hi := int64(-12); hi <= 12; hi++ {
			for exp := -5; exp <= 2; exp++ {
				for w := 0; w <= 6; w++ {
					a := span(dy(lo, exp), dy(hi, exp))
					checkTight(t, a, w, isTight(a, w))
				}
			}
		}
	}
}

// Ends may be as large as dyadics are, and too far from each other for a dyadic to be the width.
func TestTightOfLargeNumbers(t *testing.T) {
	greatest, least := ones(api.MaxBits), dy(1, -api.MaxExponent)
	for _, w := range tightPrecisions() {
		for _, d := range []api.Dyadic{wide(greatest, 0), wide(greatest, api.MaxExponent), dy(1, api.MaxExponent), dy(-1, api.MaxExponent), wide(negative(greatest), api.MaxExponent), wide(greatest, -w), dy(1, -w)} {
			checkTight(t, point(d), w, true)
			checkTight(t, span(d, wide(ones(api.MaxBits), api.MaxExponent)), w, same(d, wide(greatest, api.MaxExponent)))
			checkTight(t, span(least, d), w, false)
			checkTight(t, span(d, least), w, false)
		}
		for _, d := range []api.Dyadic{least, wide(greatest, -api.MaxExponent), dy(1, -w-1), wide(greatest, -w-1)} {
			checkTight(t, point(d), w, false)
			checkTight(t, span(api.Dyadic{}, d), w, false)
		}
		checkTight(t, units(plus(greatest, -1), 1, w), w, true)
		checkTight(t, units(plus(greatest, -2), 2, w), w, true)
		checkTight(t, units(plus(greatest, -3), 3, w), w, false)
		checkTight(t, units(negative(greatest), 2, w), w, true)
		checkTight(t, span(wide(negative(greatest), api.MaxExponent), wide(greatest, api.MaxExponent)), w, false)
		checkTight(t, span(wide(greatest, api.MaxExponent), wide(negative(greatest), api.MaxExponent)), w, false)
	}
}

func TestTightAtPrecisionsOutside(t *testing.T) {
	for _, w := range outside() {
		for _, a := range []api.Interval{{}, whole(0, 1), whole(5, 5), point(dy(1, api.MaxExponent)), point(dy(1, -api.MaxExponent)), span(dy(1, -api.MaxWork), dy(1, 1-api.MaxWork)), whole(1, 0)} {
			checkTight(t, a, w, false)
		}
	}
	for _, w := range []int{-1, -2, most + 1, most + 2, 2 * api.MaxWork} {
		checkTight(t, span(api.Dyadic{}, dy(1, -w)), w, false)
		checkTight(t, units(big.NewInt(3), 2, w), w, false)
	}
}

// The constants are tight at their own precision, and two precisions coarser or finer no more.
func TestTightOfConstants(t *testing.T) {
	for name, f := range constants() {
		for _, w := range []int{2, 3, 10, 64, 500, api.MaxWork, api.MaxWork + 1, most - 2} {
			a, err := f(w)
			if err != api.OK {
				t.Errorf("%s(%d): error %d", name, w, err)
			}
			for v := w - 2; v <= w+2; v++ {
				checkTight(t, a, v, isTight(a, v))
			}
			checkTight(t, a, w, true)
			checkTight(t, a, w+2, false)
		}
	}
}

// P13.2

func TestConstantsStayTheSame(t *testing.T) {
	ws := []int{0, 1, 2, 5, 31, 32, 33, 100, 999, api.MaxWork, api.MaxWork + 1, most}
	kept := map[string][]api.Interval{}
	for name, f := range constants() {
		for _, w := range ws {
			a, _ := f(w)
			kept[name] = append(kept[name], a)
		}
	}
	for round := range 3 {
		for name, f := range constants() {
			for i := range ws {
				// Another order each time, with calls between that are refused.
				i = (i*5 + round*7) % len(ws)
				if a, err := f(ws[i]); err != api.OK || !identical(a, kept[name][i]) {
					t.Errorf("%s(%d) = %s, error %d, and %s before", name, ws[i], shortSpan(a), err, shortSpan(kept[name][i]))
				}
				if _, err := f(-1 - i); err != api.ErrArg {
					t.Errorf("%s(%d): error %d", name, -1-i, err)
				}
			}
		}
	}
}
