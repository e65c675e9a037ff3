package logarithm_test

import (
	"encoding/binary"
	"math"
	"math/big"
	"slices"
	"strings"
	"sync"
	"testing"

	"exactreal/api"
)

const (
	top = math.MaxUint32
	// finest is the precision of the finest grid that a small interval may end on.
	finest = 2 * api.MaxWork
	// highest is the number of binary digits in front of the point that an end of a small interval may have.
	highest = api.MaxMagnitude
	// spare is the number of binary digits by which the tests know a logarithm better than the finest grid.
	spare = 200
	// known is the precision to which the tests know a logarithm.
	known = finest + spare
)

// number returns the number that a sign and a list stand for, whether they are valid or not.
func number(neg bool, a []uint32) *big.Int {
	var digits []byte
	for _, word := range slices.Backward(a) {
		digits = binary.BigEndian.AppendUint32(digits, word)
	}
	v := new(big.Int).SetBytes(digits)
	if neg {
		v.Neg(v)
	}
	return v
}

// elements returns the natural of the absolute value of v, made without the packages of the project.
func elements(v *big.Int) []uint32 {
	var a []uint32
	digits := v.FillBytes(make([]byte, (v.BitLen()+31)/32*4))
	for i := len(digits); i > 0; i -= 4 {
		a = append(a, binary.BigEndian.Uint32(digits[i-4:]))
	}
	return a
}

// wide returns the dyadic of man * 2^exp, made without the packages of the project, which must be in range.
func wide(man *big.Int, exp int) api.Dyadic {
	if man.Sign() == 0 {
		return api.Dyadic{}
	}
	zeros := int(man.TrailingZeroBits())
	odd := new(big.Int).Rsh(man, uint(zeros))
	return api.Dyadic{Man: api.Int{Neg: man.Sign() < 0, Mag: elements(odd)}, Exp: exp + zeros}
}

func dy(man int64, exp int) api.Dyadic {
	return wide(big.NewInt(man), exp)
}

// span returns the interval from lo to hi, whether it is valid or not.
func span(lo, hi api.Dyadic) api.Interval {
	return api.Interval{Lo: lo, Hi: hi}
}

func point(d api.Dyadic) api.Interval {
	return span(d, d)
}

// power returns 2^n.
func power(n int) *big.Int {
	return new(big.Int).Lsh(big.NewInt(1), uint(n))
}

// ones returns the number of n binary digits 1.
func ones(n int) *big.Int {
	return plus(power(n), -1)
}

// outer returns the number of n binary digits, at least two, of which only the first and the last one are 1.
func outer(n int) *big.Int {
	return plus(power(n-1), 1)
}

func negative(v *big.Int) *big.Int {
	return new(big.Int).Neg(v)
}

// plus returns v + n.
func plus(v *big.Int, n int64) *big.Int {
	return new(big.Int).Add(v, big.NewInt(n))
}

// times returns v * n.
func times(v *big.Int, n int) *big.Int {
	return new(big.Int).Mul(v, big.NewInt(int64(n)))
}

func mantissa(d api.Dyadic) *big.Int {
	return number(d.Man.Neg, d.Man.Mag)
}

func opposite(d api.Dyadic) api.Dyadic {
	return wide(negative(mantissa(d)), d.Exp)
}

// shifted returns d * 2^n.
func shifted(d api.Dyadic, n int) api.Dyadic {
	return wide(mantissa(d), d.Exp+n)
}

// isValid reports whether d is valid.
func isValid(d api.Dyadic) bool {
	n := len(d.Man.Mag)
	if n == 0 {
		return !d.Man.Neg && d.Exp == 0
	}
	isOdd := d.Man.Mag[0]%2 == 1
	isInRange := -api.MaxExponent <= d.Exp && d.Exp <= api.MaxExponent && mantissa(d).BitLen() <= api.MaxBits
	return d.Man.Mag[n-1] != 0 && isOdd && isInRange
}

// scaled returns d in units of 2^-p, and whether it is an integer then; d must be valid.
func scaled(d api.Dyadic, p int) (*big.Int, bool) {
	if d.Exp+p < 0 {
		return nil, mantissa(d).Sign() == 0
	}
	return new(big.Int).Lsh(mantissa(d), uint(d.Exp+p)), true
}

// units returns the ends of a in units of 2^-w, and whether both are valid dyadics on this grid.
func units(a api.Interval, w int) (lo, hi *big.Int, ok bool) {
	if !isValid(a.Lo) || !isValid(a.Hi) {
		return nil, nil, false
	}
	lo, isOnLo := scaled(a.Lo, w)
	hi, isOnHi := scaled(a.Hi, w)
	return lo, hi, isOnLo && isOnHi
}

// compare returns -1, 0 or 1 for x less than, equal to or greater than y, for two ends of small intervals.
func compare(x, y api.Dyadic) int {
	v, _ := scaled(x, finest)
	w, _ := scaled(y, finest)
	return v.Cmp(w)
}

// beside returns d + n * 2^-finest, for an end d of a small interval.
func beside(d api.Dyadic, n int64) api.Dyadic {
	man, _ := scaled(d, finest)
	return wide(plus(man, n), -finest)
}

func same(x, y api.Dyadic) bool {
	return x.Man.Neg == y.Man.Neg && slices.Equal(x.Man.Mag, y.Man.Mag) && x.Exp == y.Exp
}

// identical reports whether two intervals are.
func identical(a, b api.Interval) bool {
	return same(a.Lo, b.Lo) && same(a.Hi, b.Hi)
}

// short returns a number in a form in which it can be printed.
func short(d api.Dyadic) string {
	text := mantissa(d).Text(16)
	if len(text) > 60 {
		text = text[:30] + ".." + text[len(text)-30:]
	}
	return text + " * 2^" + big.NewInt(int64(d.Exp)).String()
}

func shortSpan(a api.Interval) string {
	return "[" + short(a.Lo) + ", " + short(a.Hi) + "]"
}

// every returns each n-th element of a list.
func every[T any](n int, list []T) []T {
	var some []T
	for i := 0; i < len(list); i += n {
		some = append(some, list[i])
	}
	return some
}

// least returns the least positive number that a small interval may end at, and greatest the greatest one.
func least() api.Dyadic {
	return dy(1, -finest)
}

func greatest() api.Dyadic {
	return wide(ones(highest+finest), -finest)
}

// ends returns positive numbers that small intervals may end at, in ascending order, each once.
func ends() []api.Dyadic {
	all := []api.Dyadic{
		least(), dy(3, -finest), dy(5, -finest), dy(7, -finest), dy(top, -finest), dy(1, 1-finest), dy(1, 40-finest), wide(outer(200), -finest), wide(ones(201), -finest),
		greatest(), beside(greatest(), -1), wide(outer(highest+finest), -finest), dy(1, highest-1), dy(3, highest-2), wide(ones(highest), 0), wide(outer(highest), 0),
		dy(3, 0), dy(5, 0), dy(7, 0), dy(10, 0), dy(1000, 0), dy(top, 0), dy(355, -7), dy(5, -3), dy(1, 31), dy(1, 32), dy(1, 64), dy(1, 1000), dy(1, -31), dy(1, -32), dy(1, -64), dy(1, -1000), dy(1, -api.MaxWork), dy(1, -api.MaxWork-1),
		dy(1025, -10), dy(1023, -10), wide(outer(34), -33), wide(ones(33), -33), wide(outer(66), -65), wide(ones(65), -65), wide(outer(api.MaxWork+1), -api.MaxWork), wide(ones(api.MaxWork), -api.MaxWork), wide(outer(api.MaxWork+34), -api.MaxWork-33), wide(ones(api.MaxWork+33), -api.MaxWork-33),
		wide(ones(500), -494), wide(outer(finest), -finest), wide(ones(finest-3), -finest),
	}
	for _, d := range []api.Dyadic{dy(1, 0), dy(3, -2), dy(3, -1), dy(1, -1), dy(1, 1), dy(1, 10), dy(3, 8), dy(1, -10), dy(3, -12), dy(1, 1-finest/2)} {
		all = append(all, d, beside(d, 1), beside(d, -1))
	}
	slices.SortFunc(all, compare)
	return slices.CompactFunc(all, same)
}

// notPositive returns zero and negative numbers that small intervals may end at, in ascending order.
func notPositive() []api.Dyadic {
	return []api.Dyadic{opposite(greatest()), dy(-1, highest-1), dy(-top, 0), dy(-3, 0), dy(-2, 0), dy(-1, 0), beside(dy(-1, 0), 1), dy(-3, -2), dy(-1, -1), dy(-1, -64), opposite(least()), {}}
}

// precisions returns working precisions, the least ones among them.
func precisions() []int {
	return []int{0, 1, 2, 3, 5, 12, 31, 32, 33, 64, 100}
}

// greatPrecisions returns working precisions, the greatest ones among them.
func greatPrecisions() []int {
	return []int{500, 1000, 2047, 2500, api.MaxWork - 33, api.MaxWork - 32, api.MaxWork - 31, api.MaxWork - 1, api.MaxWork}
}

// outside returns numbers that are no working precisions.
func outside() []int {
	return []int{-1, api.MaxWork + 1, -2, -32, api.MaxWork + 2, api.MaxWork + 32, api.MaxWork + 128, -api.MaxWork, finest, finest + 1, -highest, -highest - 1, api.MaxExponent, -api.MaxExponent, api.MaxShift, -api.MaxShift, 1 << 32, -1 << 32, 1<<32 + 5, 1 << 62, -1 << 62, math.MaxInt32, math.MinInt32, math.MaxInt, math.MaxInt - 1, math.MinInt, math.MinInt + 1}
}

// bounds are two integers, one of which is not greater than a number in units of 2^-known, and the other one not less.
type bounds struct{ lo, hi *big.Int }

// exactly returns the bounds of the integer n.
func exactly(n int64) bounds {
	v := new(big.Int).Lsh(big.NewInt(n), known)
	return bounds{v, v}
}

// logged returns bounds of ln d for a positive end d of a small interval.
func logged(d api.Dyadic) bounds {
	switch compare(d, dy(1, 0)) {
	case 0:
		return exactly(0)
	case 1:
		man, _ := scaled(d, fine)
		v := rooted(man)
		return bounds{plus(v, -1), plus(v, 2)}
	}
	// The opposite is the logarithm of the reciprocal.
	v := rooted(new(big.Int).Quo(power(fine-d.Exp), mantissa(d)))
	v.Neg(v)
	return bounds{plus(v, -2), plus(v, 1)}
}

const (
	// roots is the number of square roots that are drawn to find a logarithm.
	roots = 40
	// fine is the precision to which they are found.
	fine = known + roots + 64
)

// rooted returns about ln x * 2^known, for x at least 1, given in units of 2^-fine and off by less than one of them. Unlike the package, it draws square roots until the rest is next to 1, and adds the series of the logarithm there.
func rooted(x *big.Int) *big.Int {
	x = new(big.Int).Set(x)
	for range roots {
		x.Sqrt(x.Lsh(x, fine))
	}
	// The first rest is less than 2^-27, so there are fewer than 350 terms, each of which loses less than 3 units of 2^-fine; the roots lose less than 3 in all. The sum is multiplied by 2^roots and rounded down, so the result is greater by less than 1, or less by less than 2.
	rest := x.Sub(x, power(fine))
	total, term := new(big.Int), power(fine)
	for k := 1; ; k++ {
		term.Rsh(term.Mul(term, rest), fine)
		if term.Sign() == 0 {
			return total.Rsh(total, fine-known-roots)
		}
		part := new(big.Int).Quo(term, big.NewInt(int64(k)))
		if k%2 == 0 {
			part.Neg(part)
		}
		total.Add(total, part)
	}
}

// loggedAll returns the bounds of the logarithms of numbers.
func loggedAll(all []api.Dyadic) []bounds {
	var found []bounds
	for _, d := range all {
		found = append(found, logged(d))
	}
	return found
}

// loggedEnds returns those of the numbers that ends returns, in the same order; it finds them once.
var loggedEnds = sync.OnceValue(func() []bounds {
	return loggedAll(ends())
})

// sum returns the bounds of x + n * y for numbers x and y with the bounds a and b.
func sum(a bounds, n int, b bounds) bounds {
	one, other := times(b.lo, n), times(b.hi, n)
	if n < 0 {
		one, other = other, one
	}
	return bounds{one.Add(one, a.lo), other.Add(other, a.hi)}
}

// raised returns the greatest integer that is not greater than e^x * 2^finest, for x = n * 2^-w from -1000 to 1419.
func raised(n *big.Int, w int) *big.Int {
	// The series loses less than 2^13 units, each multiplied by less than 2^2048.
	const places = finest + highest + 200
	exponent := new(big.Int).Abs(n)
	term, total := power(places), power(places)
	for k := 1; term.Sign() != 0; k++ {
		term.Rsh(term.Mul(term, exponent), uint(w))
		term.Quo(term, big.NewInt(int64(k)))
		total.Add(total, term)
	}
	if n.Sign() < 0 {
		total.Quo(power(2*places), total)
	}
	return total.Rsh(total, places-finest)
}

// decimals returns numbers with the digits that their logarithms are known to begin with.
func decimals() map[string]api.Dyadic {
	return map[string]api.Dyadic{
		"0.0000000000000000000000000000000000000000000000000000000000000000000000000000000000000000000000000000":   dy(1, 0),
		"0.6931471805599453094172321214581765680755001343602552541206800094933936219696947156058633269964186875":   dy(2, 0),
		"1.0986122886681096913952452369225257046474905578227494517346943336374942932186089668736157548137320887":   dy(3, 0),
		"1.9459101490553133051053527434431797296370847295818611884593901499375798627520692677876584985878715269":   dy(7, 0),
		"2.3025850929940456840179914546843642076011014886287729760333279009675726096773524802359972050895982983":   dy(10, 0),
		"6.9077552789821370520539743640530926228033044658863189280999837029027178290320574407079916152687948950":   dy(1000, 0),
		"0.4054651081081643819780131154643491365719904234624941976140143241441006712489142512677524278173134012":   dy(3, -1),
		"-0.2876820724517809274392190059938274315035097108977610565066656853492929507207804643381108991791052862":  dy(3, -2),
		"-0.6931471805599453094172321214581765680755001343602552541206800094933936219696947156058633269964186875":  dy(1, -1),
		"-69.3147180559945309417232121458176568075500134360255254120680009493393621969694715605863326996418687542": dy(1, -100),
	}
}

// The logarithms that the other tests compare with begin with digits that are well known.
func TestKnownDigits(t *testing.T) {
	for text, d := range decimals() {
		whole, part, _ := strings.Cut(text, ".")
		want, _ := new(big.Int).SetString(whole+part, 10)
		scale := new(big.Int).Exp(big.NewInt(10), big.NewInt(int64(len(part))), nil)
		found := logged(d)
		for _, bound := range []*big.Int{found.lo, found.hi} {
			// Digits that are left out make a number less in absolute value.
			got := new(big.Int).Quo(new(big.Int).Mul(bound, scale), power(known))
			if got.Cmp(want) != 0 {
				t.Errorf("the logarithm of %s begins with %s, want %s", short(d), got, text)
			}
		}
	}
}
