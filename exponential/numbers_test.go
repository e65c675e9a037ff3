package exponential_test

import (
	"encoding/binary"
	"math"
	"math/big"
	"slices"
	"strings"
	"testing"

	"exactreal/api"
)

const (
	top = math.MaxUint32
	// finest is the precision of the finest grid that a small interval may end on.
	finest = 2 * api.MaxWork
	// spare is the number of binary digits by which the tests know a power of e better than the grid of a result.
	spare = 200
)

// number returns the number that a sign and a list stand for, whether they are valid or not.
func number(neg bool, a []uint32) *big.Int {
	var digits []byte
	for _, word := range slices.Backward(a) {
		digits = binary.BigEndian.AppendUint32(digits, word)
	}
	v := new(big.Int).SetBytes(digits)
	if neg {
		v.Neg(v)
	}
	return v
}

// elements returns the natural of the absolute value of v, made without the packages of the project.
func elements(v *big.Int) []uint32 {
	var a []uint32
	digits := v.FillBytes(make([]byte, (v.BitLen()+31)/32*4))
	for i := len(digits); i > 0; i -= 4 {
		a = append(a, binary.BigEndian.Uint32(digits[i-4:]))
	}
	return a
}

// wide returns the dyadic of man * 2^exp, made without the packages of the project, which must be in range.
func wide(man *big.Int, exp int) api.Dyadic {
	if man.Sign() == 0 {
		return api.Dyadic{}
	}
	zeros := int(man.TrailingZeroBits())
	odd := new(big.Int).Rsh(man, uint(zeros))
	return api.Dyadic{Man: api.Int{Neg: man.Sign() < 0, Mag: elements(odd)}, Exp: exp + zeros}
}

func dy(man int64, exp int) api.Dyadic {
	return wide(big.NewInt(man), exp)
}

// span returns the interval from lo to hi, whether it is valid or not.
func span(lo, hi api.Dyadic) api.Interval {
	return api.Interval{Lo: lo, Hi: hi}
}

func point(d api.Dyadic) api.Interval {
	return span(d, d)
}

// power returns 2^n.
func power(n int) *big.Int {
	return new(big.Int).Lsh(big.NewInt(1), uint(n))
}

// ones returns the number of n binary digits 1.
func ones(n int) *big.Int {
	return plus(power(n), -1)
}

// outer returns the number of n binary digits, at least two, of which only the first and the last one are 1.
func outer(n int) *big.Int {
	return plus(power(n-1), 1)
}

func negative(v *big.Int) *big.Int {
	return new(big.Int).Neg(v)
}

// plus returns v + n.
func plus(v *big.Int, n int64) *big.Int {
	return new(big.Int).Add(v, big.NewInt(n))
}

// times returns v * n.
func times(v *big.Int, n int) *big.Int {
	return new(big.Int).Mul(v, big.NewInt(int64(n)))
}

func mantissa(d api.Dyadic) *big.Int {
	return number(d.Man.Neg, d.Man.Mag)
}

func opposite(d api.Dyadic) api.Dyadic {
	return wide(negative(mantissa(d)), d.Exp)
}

func mirrored(a api.Interval) api.Interval {
	return span(opposite(a.Hi), opposite(a.Lo))
}

// isValid reports whether d is valid.
func isValid(d api.Dyadic) bool {
	n := len(d.Man.Mag)
	if n == 0 {
		return !d.Man.Neg && d.Exp == 0
	}
	isOdd := d.Man.Mag[0]%2 == 1
	isInRange := -api.MaxExponent <= d.Exp && d.Exp <= api.MaxExponent && mantissa(d).BitLen() <= api.MaxBits
	return d.Man.Mag[n-1] != 0 && isOdd && isInRange
}

// scaled returns d in units of 2^-p, and whether it is an integer then; d must be valid.
func scaled(d api.Dyadic, p int) (*big.Int, bool) {
	if d.Exp+p < 0 {
		return nil, mantissa(d).Sign() == 0
	}
	return new(big.Int).Lsh(mantissa(d), uint(d.Exp+p)), true
}

// units returns the ends of a in units of 2^-w, and whether both are valid dyadics on this grid.
func units(a api.Interval, w int) (lo, hi *big.Int, ok bool) {
	if !isValid(a.Lo) || !isValid(a.Hi) {
		return nil, nil, false
	}
	lo, isOnLo := scaled(a.Lo, w)
	hi, isOnHi := scaled(a.Hi, w)
	return lo, hi, isOnLo && isOnHi
}

// compare returns -1, 0 or 1 for x less than, equal to or greater than y, for two ends of small intervals.
func compare(x, y api.Dyadic) int {
	v, _ := scaled(x, finest)
	w, _ := scaled(y, finest)
	return v.Cmp(w)
}

// beside returns d + n * 2^-finest, for an end d of a small interval.
func beside(d api.Dyadic, n int64) api.Dyadic {
	man, _ := scaled(d, finest)
	return wide(plus(man, n), -finest)
}

func same(x, y api.Dyadic) bool {
	return x.Man.Neg == y.Man.Neg && slices.Equal(x.Man.Mag, y.Man.Mag) && x.Exp == y.Exp
}

// identical reports whether two intervals are.
func identical(a, b api.Interval) bool {
	return same(a.Lo, b.Lo) && same(a.Hi, b.Hi)
}

// short returns a number in a form in which it can be printed.
func short(d api.Dyadic) string {
	text := mantissa(d).Text(16)
	if len(text) > 60 {
		text = text[:30] + ".." + text[len(text)-30:]
	}
	return text + " * 2^" + big.NewInt(int64(d.Exp)).String()
}

func shortSpan(a api.Interval) string {
	return "[" + short(a.Lo) + ", " + short(a.Hi) + "]"
}

// every returns each n-th element of a list.
func every[T any](n int, list []T) []T {
	var some []T
	for i := 0; i < len(list); i += n {
		some = append(some, list[i])
	}
	return some
}

// ends returns numbers that small intervals may end at and that are at most MaxArgument, in ascending order.
func ends() []api.Dyadic {
	limit := dy(api.MaxArgument, 0)
	all := []api.Dyadic{
		{}, limit, beside(limit, -1), dy(2*api.MaxArgument-1, -1), opposite(limit), beside(opposite(limit), 1), beside(opposite(limit), -1), dy(-1001, 0),
		dy(-2838, 0), dy(-2839, 0), dy(-2840, 0), dy(-3000, 0), dy(1-api.MaxWork, 0), dy(-api.MaxWork, 0), beside(dy(-api.MaxWork, 0), -1), dy(-api.MaxWork-1, 0), dy(-finest, 0),
		dy(-1, 20), dy(-top, 0), dy(-1, 32), dy(-1, 2000), dy(-1, api.MaxMagnitude-1), wide(negative(ones(api.MaxMagnitude+finest)), -finest), wide(negative(outer(api.MaxMagnitude+finest)), -finest),
	}
	for _, d := range []api.Dyadic{
		dy(1, 0), beside(dy(1, 0), 1), beside(dy(1, 0), -1), dy(1025, -10), dy(1023, -10), dy(1, -1), dy(3, -1), dy(2, 0), dy(3, 0), dy(10, 0), dy(21, 0), dy(22, 0), dy(100, 0), dy(700, 0), dy(999, 0),
		dy(1, -finest), dy(1, -finest+1), dy(1, -api.MaxWork-1), dy(1, -api.MaxWork), dy(1, -1000), dy(1, -65), dy(1, -64), dy(1, -63), beside(dy(1, -64), -1), dy(1, -33), dy(1, -32), dy(1, -10), dy(5, -3), dy(355, -7),
		wide(outer(finest), -finest), wide(ones(finest-3), -finest), wide(outer(finest+7), -finest), wide(ones(finest+9), -finest), wide(ones(500), -494), wide(logarithm(big.NewInt(2), big.NewInt(1), finest), -finest),
	} {
		all = append(all, d, opposite(d))
	}
	slices.SortFunc(all, compare)
	return all
}

// precisions returns working precisions, the least ones among them.
func precisions() []int {
	return []int{0, 1, 2, 3, 5, 12, 31, 32, 33, 64, 100}
}

// greatPrecisions returns working precisions, the greatest ones among them.
func greatPrecisions() []int {
	return []int{500, 1000, 2047, 2500, api.MaxWork - 1, api.MaxWork}
}

// outside returns numbers that are no working precisions.
func outside() []int {
	return []int{-1, api.MaxWork + 1, -2, -12, api.MaxWork + 2, api.MaxWork + 12, api.MaxWork + 128, -api.MaxWork, finest, finest + 1, -api.MaxMagnitude, -api.MaxMagnitude - 1, api.MaxExponent, -api.MaxExponent, api.MaxShift, -api.MaxShift, 1 << 32, -1 << 32, 1<<32 + 5, 1 << 62, -1 << 62, math.MaxInt32, math.MinInt32, math.MaxInt, math.MaxInt - 1, math.MinInt, math.MinInt + 1}
}

// bounds are two integers, one of which is not greater than a number in units of some precision, and the other one not less.
type bounds struct{ lo, hi *big.Int }

// raised returns bounds of e^d in units of 2^-precision. Unlike the package, it adds the whole series at |d|, and divides where d is negative.
func raised(d api.Dyadic, precision int) bounds {
	man := mantissa(d)
	isNegative := man.Sign() < 0
	man.Abs(man)
	if isNegative && man.BitLen()+d.Exp > 14 {
		// e^16384 is greater than 2^20000.
		return bounds{new(big.Int), big.NewInt(1)}
	}
	whole := int(new(big.Int).Rsh(new(big.Int).Lsh(man, finest), uint(finest-d.Exp)).Int64())
	if isNegative && whole*7/5 > precision {
		return bounds{new(big.Int), big.NewInt(1)}
	}
	if man.Sign() == 0 {
		return bounds{power(precision), power(precision)}
	}
	digits := whole*3/2 + 2
	more := digits + 64
	sum := series(man, d.Exp, precision+more, digits)
	if isNegative {
		square := power(2 * (precision + more))
		sum = bounds{new(big.Int).Quo(square, sum.hi), plus(new(big.Int).Quo(square, sum.lo), 1)}
	}
	return bounds{new(big.Int).Rsh(sum.lo, uint(more)), plus(new(big.Int).Rsh(sum.hi, uint(more)), 1)}
}

// series returns bounds of e^x in units of 2^-precision for x = man * 2^exp, not negative, and e^x at most 2^digits.
func series(man *big.Int, exp, precision, digits int) bounds {
	term, total := power(precision), power(precision)
	k := 1
	for ; term.Sign() != 0; k++ {
		term.Mul(term, man)
		term.Rsh(term.Lsh(term, uint(max(exp, 0))), uint(max(-exp, 0)))
		term.Quo(term, big.NewInt(int64(k)))
		total.Add(total, term)
	}
	// Each term loses less than 2 units, and each unit is multiplied by the rest of the series, less than e^x in all.
	lost := new(big.Int).Lsh(big.NewInt(int64(2*k)), uint(digits))
	return bounds{total, lost.Add(lost, total)}
}

// logarithm returns the greatest integer that is not greater than ln(num / den) * 2^precision, for naturals of which none is zero.
func logarithm(num, den *big.Int, precision int) *big.Int {
	// The series is summed with 100 digits more, since each term loses a few units.
	places := precision + 100
	shift := num.BitLen() - den.BitLen()
	num, den = new(big.Int).Lsh(num, uint(max(-shift, 0))), new(big.Int).Lsh(den, uint(max(shift, 0)))
	total := areaTangent(new(big.Int).Sub(num, den), new(big.Int).Add(num, den), places)
	if shift != 0 {
		total.Add(total, times(areaTangent(big.NewInt(1), big.NewInt(3), places), shift))
	}
	return total.Rsh(total.Lsh(total, 1), 100)
}

// areaTangent returns the area tangent of num / den, at most 1/3 in absolute value, in units of 2^-precision.
func areaTangent(num, den *big.Int, precision int) *big.Int {
	total := new(big.Int)
	term := new(big.Int).Quo(new(big.Int).Lsh(num, uint(precision)), den)
	for k := int64(1); term.Sign() != 0; k += 2 {
		total.Add(total, new(big.Int).Quo(term, big.NewInt(k)))
		for range 2 {
			term.Quo(term.Mul(term, num), den)
		}
	}
	return total
}

// The powers and the logarithms that the other tests compare with begin with digits that are well known.
func TestKnownDigits(t *testing.T) {
	const precision = 500
	powers := map[string]bounds{}
	for text, d := range map[string]api.Dyadic{
		"2.7182818284590452353602874713526624977572470936999595749669676277240766303535475945713821785251664274":     dy(1, 0),
		"0.3678794411714423215955237701614608674458111310317678345078368016974614957448998033571472743459196437":     dy(-1, 0),
		"1.6487212707001281468486507878141635716537761007101480115750793116406610211942156086327765200563666430":     dy(1, -1),
		"7.3890560989306502272304274605750078131803155705518473240871278225225737960790577633843124850791217947":     dy(2, 0),
		"22026.4657948067165169579006452842443663535126185567810742354263552252028185707925751991209681645258954515": dy(10, 0),
		"1.0000000000000000000000000000000000000000000000000000000000000000000000000000000000000000000000000000":     {},
	} {
		powers[text] = raised(d, precision)
	}
	ln2 := logarithm(big.NewInt(2), big.NewInt(1), precision)
	powers["0.6931471805599453094172321214581765680755001343602552541206800094933936219696947156058633269964186875"] = bounds{ln2, plus(ln2, 1)}
	ln10 := logarithm(big.NewInt(10), big.NewInt(1), precision)
	powers["2.3025850929940456840179914546843642076011014886287729760333279009675726096773524802359972050895982983"] = bounds{ln10, plus(ln10, 1)}
	for text, found := range powers {
		whole, part, _ := strings.Cut(text, ".")
		want, _ := new(big.Int).SetString(whole+part, 10)
		scale := new(big.Int).Exp(big.NewInt(10), big.NewInt(int64(len(part))), nil)
		for _, bound := range []*big.Int{found.lo, found.hi} {
			got := new(big.Int).Rsh(new(big.Int).Mul(bound, scale), precision)
			if got.Cmp(want) != 0 {
				t.Errorf("a number begins with %s, want %s", got, text)
			}
		}
	}
}
