package arctangent_test

import (
	"encoding/binary"
	"math"
	"math/big"
	"slices"
	"strings"
	"sync"
	"testing"

	"exactreal/api"
)

const (
	top = math.MaxUint32
	// finest is the precision of the finest grid that a small interval may end on.
	finest = 2 * api.MaxWork
	// highest is the number of binary digits in front of the point that an end of a small interval may have.
	highest = api.MaxMagnitude
	// known is the precision to which the tests know an angle, well beyond the finest grid.
	known = finest + 200
	// guard is the number of binary digits by which they find it more precisely.
	guard = 64
)

// number returns the number that a sign and a list stand for, whether they are valid or not.
func number(neg bool, a []uint32) *big.Int {
	var digits []byte
	for _, word := range slices.Backward(a) {
		digits = binary.BigEndian.AppendUint32(digits, word)
	}
	v := new(big.Int).SetBytes(digits)
	if neg {
		v.Neg(v)
	}
	return v
}

// elements returns the natural of the absolute value of v, made without the packages of the project.
func elements(v *big.Int) []uint32 {
	var a []uint32
	digits := v.FillBytes(make([]byte, (v.BitLen()+31)/32*4))
	for i := len(digits); i > 0; i -= 4 {
		a = append(a, binary.BigEndian.Uint32(digits[i-4:]))
	}
	return a
}

// wide returns the dyadic of man * 2^exp, made without the packages of the project, which must be in range.
func wide(man *big.Int, exp int) api.Dyadic {
	if man.Sign() == 0 {
		return api.Dyadic{}
	}
	zeros := int(man.TrailingZeroBits())
	odd := new(big.Int).Rsh(man, uint(zeros))
	return api.Dyadic{Man: api.Int{Neg: man.Sign() < 0, Mag: elements(odd)}, Exp: exp + zeros}
}

func dy(man int64, exp int) api.Dyadic {
	return wide(big.NewInt(man), exp)
}

// span returns the interval from lo to hi, whether it is valid or not.
func span(lo, hi api.Dyadic) api.Interval {
	return api.Interval{Lo: lo, Hi: hi}
}

func point(d api.Dyadic) api.Interval {
	return span(d, d)
}

// power returns 2^n.
func power(n int) *big.Int {
	return new(big.Int).Lsh(big.NewInt(1), uint(n))
}

// ones returns the number of n binary digits 1.
func ones(n int) *big.Int {
	return plus(power(n), -1)
}

// outer returns the number of n binary digits, at least two, of which only the first and the last one are 1.
func outer(n int) *big.Int {
	return plus(power(n-1), 1)
}

func negative(v *big.Int) *big.Int {
	return new(big.Int).Neg(v)
}

// plus returns v + n.
func plus(v *big.Int, n int64) *big.Int {
	return new(big.Int).Add(v, big.NewInt(n))
}

// times returns v * n.
func times(v *big.Int, n int64) *big.Int {
	return new(big.Int).Mul(v, big.NewInt(n))
}

func mantissa(d api.Dyadic) *big.Int {
	return number(d.Man.Neg, d.Man.Mag)
}

func opposite(d api.Dyadic) api.Dyadic {
	return wide(negative(mantissa(d)), d.Exp)
}

// mirrored returns the interval of all -x for the numbers x of a.
func mirrored(a api.Interval) api.Interval {
	return span(opposite(a.Hi), opposite(a.Lo))
}

// isValid reports whether d is valid.
func isValid(d api.Dyadic) bool {
	n := len(d.Man.Mag)
	if n == 0 {
		return !d.Man.Neg && d.Exp == 0
	}
	isOdd := d.Man.Mag[0]%2 == 1
	isInRange := -api.MaxExponent <= d.Exp && d.Exp <= api.MaxExponent && mantissa(d).BitLen() <= api.MaxBits
	return d.Man.Mag[n-1] != 0 && isOdd && isInRange
}

// scaled returns d in units of 2^-p, and whether it is an integer then; d must be valid.
func scaled(d api.Dyadic, p int) (*big.Int, bool) {
	if d.Exp+p < 0 {
		return nil, mantissa(d).Sign() == 0
	}
	return new(big.Int).Lsh(mantissa(d), uint(d.Exp+p)), true
}

// units returns the ends of a in units of 2^-w, and whether both are valid dyadics on this grid.
func units(a api.Interval, w int) (lo, hi *big.Int, ok bool) {
	if !isValid(a.Lo) || !isValid(a.Hi) {
		return nil, nil, false
	}
	lo, isOnLo := scaled(a.Lo, w)
	hi, isOnHi := scaled(a.Hi, w)
	return lo, hi, isOnLo && isOnHi
}

// compare returns -1, 0 or 1 for x less than, equal to or greater than y, for two ends of small intervals.
func compare(x, y api.Dyadic) int {
	v, _ := scaled(x, finest)
	w, _ := scaled(y, finest)
	return v.Cmp(w)
}

// beside returns d + n * 2^-finest, for an end d of a small interval.
func beside(d api.Dyadic, n int64) api.Dyadic {
	man, _ := scaled(d, finest)
	return wide(plus(man, n), -finest)
}

func same(x, y api.Dyadic) bool {
	return x.Man.Neg == y.Man.Neg && slices.Equal(x.Man.Mag, y.Man.Mag) && x.Exp == y.Exp
}

// identical reports whether two intervals are.
func identical(a, b api.Interval) bool {
	return same(a.Lo, b.Lo) && same(a.Hi, b.Hi)
}

// short returns a number in a form in which it can be printed.
func short(d api.Dyadic) string {
	text := mantissa(d).Text(16)
	if len(text) > 60 {
		text = text[:30] + ".." + text[len(text)-30:]
	}
	return text + " * 2^" + big.NewInt(int64(d.Exp)).String()
}

func shortSpan(a api.Interval) string {
	return "[" + short(a.Lo) + ", " + short(a.Hi) + "]"
}

// every returns each n-th element of a list.
func every[T any](n int, list []T) []T {
	var some []T
	for i := 0; i < len(list); i += n {
		some = append(some, list[i])
	}
	return some
}

// least returns the least positive number that a small interval may end at, and greatest the greatest one.
func least() api.Dyadic {
	return dy(1, -finest)
}

func greatest() api.Dyadic {
	return wide(ones(highest+finest), -finest)
}

// positive returns positive numbers that small intervals may end at.
func positive() []api.Dyadic {
	all := []api.Dyadic{
		least(), dy(3, -finest), dy(5, -finest), dy(top, -finest), dy(1, 1-finest), dy(1, 40-finest), wide(outer(200), -finest), wide(ones(201), -finest),
		greatest(), beside(greatest(), -1), wide(outer(highest+finest), -finest), dy(1, highest-1), dy(3, highest-2), wide(ones(highest), 0), wide(outer(highest), 0),
		dy(3, 0), dy(5, 0), dy(10, 0), dy(239, 0), dy(1000, 0), dy(1000000, 0), dy(top, 0), dy(355, -7), dy(5, -3), dy(3, -2), dy(3, -1), dy(1, 31), dy(1, 32), dy(1, 64), dy(1, 1000), dy(1, -31), dy(1, -32), dy(1, -64), dy(1, -1000), dy(1, -api.MaxWork), dy(1, -api.MaxWork-1),
		dy(1025, -10), dy(1023, -10), wide(outer(34), -33), wide(ones(33), -33), wide(outer(66), -65), wide(ones(65), -65), wide(outer(api.MaxWork+1), -api.MaxWork), wide(ones(api.MaxWork), -api.MaxWork), wide(outer(api.MaxWork+34), -api.MaxWork-33), wide(ones(api.MaxWork+33), -api.MaxWork-33),
		wide(ones(500), -494), wide(outer(finest), -finest), wide(ones(finest-3), -finest),
	}
	for _, d := range []api.Dyadic{dy(1, 0), dy(1, -1), dy(1, 1), dy(1, 10), dy(1, -10), dy(3, -12), dy(1, -20), dy(1, 1-finest/2), dy(1, 500)} {
		all = append(all, d, beside(d, 1), beside(d, -1))
	}
	return all
}

// ends returns numbers that small intervals may end at, in ascending order, each once: those that positive returns, their opposites and zero.
func ends() []api.Dyadic {
	all := []api.Dyadic{{}}
	for _, d := range positive() {
		all = append(all, d, opposite(d))
	}
	slices.SortFunc(all, compare)
	return slices.CompactFunc(all, same)
}

// precisions returns working precisions, the least ones among them.
func precisions() []int {
	return []int{0, 1, 2, 3, 5, 12, 31, 32, 33, 64, 100}
}

// greatPrecisions returns working precisions, the greatest ones among them.
func greatPrecisions() []int {
	return []int{500, 1000, 2047, 2500, api.MaxWork - 33, api.MaxWork - 32, api.MaxWork - 31, api.MaxWork - 1, api.MaxWork}
}

// outside returns numbers that are no working precisions.
func outside() []int {
	return []int{-1, api.MaxWork + 1, -2, -32, api.MaxWork + 2, api.MaxWork + 32, api.MaxWork + 128, -api.MaxWork, finest, finest + 1, -highest, -highest - 1, api.MaxExponent, -api.MaxExponent, api.MaxShift, -api.MaxShift, 1 << 32, -1 << 32, 1<<32 + 5, 1 << 62, -1 << 62, math.MaxInt32, math.MinInt32, math.MaxInt, math.MaxInt - 1, math.MinInt, math.MinInt + 1}
}

// bounds are two integers, one of which is not greater than a number in units of 2^-known, and the other one not less.
type bounds struct{ lo, hi *big.Int }

// alternating returns x - x^3 / 3 + x^5 / 5 - .., the arctangent of x, in units of 2^-(known + guard), given x in these units, and a function that multiplies a power of x by x * x. If it loses less than 2 units, so does each term, and what is left out is less than 2.
func alternating(x *big.Int, next func(power *big.Int)) *big.Int {
	total, power := new(big.Int), new(big.Int).Set(x)
	for n := int64(1); power.Sign() != 0; n += 2 {
		term := new(big.Int).Quo(power, big.NewInt(n))
		if n%4 == 3 {
			term.Neg(term)
		}
		total.Add(total, term)
		next(power)
	}
	return total
}

// inverse returns the arctangent of 1 / n, for n of at least 2, off by less than 2^14 units of 2^-(known + guard), as the series has fewer than 4300 terms. Unlike the package, it adds the series at 1 / n itself.
func inverse(n int64) *big.Int {
	square := times(big.NewInt(n), n)
	first := new(big.Int).Quo(power(known+guard), big.NewInt(n))
	return alternating(first, func(power *big.Int) {
		power.Quo(power, square)
	})
}

// turns returns the arctangents of 2^-k for k = 0, 1, 2, .., off by less than 2^15 units of 2^-(known + guard); it finds them once.
var turns = sync.OnceValue(func() []*big.Int {
	// The tangent of the sum of two angles is (x + y) / (1 - x * y).
	all := []*big.Int{new(big.Int).Add(inverse(2), inverse(3))}
	for k := 1; k <= 32; k++ {
		all = append(all, inverse(1<<k))
	}
	return all
})

// arc returns the arctangent of y / x, for positive numbers, off by less than 2^21 units of 2^-(known + guard). Unlike the package, it draws no square root: it turns the place (x, y) back by known angles, as long as they are not too large.
func arc(y, x *big.Int) *big.Int {
	total := new(big.Int)
	for k, turn := range turns() {
		shifted := new(big.Int).Lsh(y, uint(k))
		if shifted.Cmp(x) < 0 {
			continue
		}
		y, x = shifted.Sub(shifted, x), new(big.Int).Add(new(big.Int).Lsh(x, uint(k)), y)
		total.Add(total, turn)
	}
	// What is left is less than 2^-32.
	rest := new(big.Int).Quo(new(big.Int).Lsh(y, known+guard), x)
	square := new(big.Int).Mul(rest, rest)
	square.Rsh(square, known+guard)
	return total.Add(total, alternating(rest, func(power *big.Int) {
		power.Rsh(power.Mul(power, square), known+guard)
	}))
}

// about returns the bounds of a number that is given in units of 2^-(known + guard) and off by less than 2^guard of them.
func about(v *big.Int) bounds {
	units := new(big.Int).Rsh(v, guard)
	return bounds{plus(units, -1), plus(units, 2)}
}

// angle returns bounds of the arctangent of an end d of a small interval.
func angle(d api.Dyadic) bounds {
	man := mantissa(d)
	switch man.Sign() {
	case 0:
		return bounds{new(big.Int), new(big.Int)}
	case -1:
		found := angle(opposite(d))
		return bounds{negative(found.hi), negative(found.lo)}
	}
	return about(arc(new(big.Int).Lsh(man, uint(max(d.Exp, 0))), power(max(-d.Exp, 0))))
}

// angles returns the bounds of the arctangents of numbers.
func angles(all []api.Dyadic) []bounds {
	var found []bounds
	for _, d := range all {
		found = append(found, angle(d))
	}
	return found
}

// anglesOfEnds returns those of the numbers that ends returns, in the same order; it finds them once.
var anglesOfEnds = sync.OnceValue(func() []bounds {
	return angles(ends())
})

// rightAngle returns the greatest integer that is not greater than pi / 2 in units of 2^-w.
func rightAngle(w int) *big.Int {
	return new(big.Int).Rsh(turns()[0], uint(known+guard-w-1))
}

// tangent returns the greatest integer that is not greater than the tangent of n * 2^-w in units of 2^-finest, for a positive n such that the tangent is less than 2^1000.
func tangent(n *big.Int, w int) *big.Int {
	// Fewer than 2^12 terms lose a unit each. That is multiplied by less than 2^2002 in the end.
	const places = finest + 2002 + 200
	term, sine, cosine := power(places), new(big.Int), power(places)
	for k := int64(1); term.Sign() != 0; k++ {
		term = new(big.Int).Rsh(new(big.Int).Mul(term, n), uint(w))
		term.Quo(term, big.NewInt(k))
		total := sine
		if k%2 == 0 {
			total = cosine
		}
		if k%4 < 2 {
			total.Add(total, term)
		} else {
			total.Sub(total, term)
		}
	}
	return sine.Quo(sine.Lsh(sine, finest), cosine)
}

// decimals returns numbers with the digits that their arctangents are known to begin with.
func decimals() map[string]api.Dyadic {
	return map[string]api.Dyadic{
		"0.0000000000000000000000000000000000000000000000000000000000000000000000000000000000000000000000000000":  {},
		"0.7853981633974483096156608458198757210492923498437764552437361480769541015715522496570087063355292669":  dy(1, 0),
		"-0.7853981633974483096156608458198757210492923498437764552437361480769541015715522496570087063355292669": dy(-1, 0),
		"0.4636476090008061162142562314612144020285370542861202638109330887201978641657417053006002839848878925":  dy(1, -1),
		"1.1071487177940905030170654601785370400700476454014326466765392074337103389773627940134171286861706414":  dy(2, 0),
		"-1.1071487177940905030170654601785370400700476454014326466765392074337103389773627940134171286861706414": dy(-2, 0),
		"0.3587706702705722203959200639264604997769756558809157796403988667547031842211293287432644092694253730":  dy(3, -3),
		"0.1243549945467614350313548491638710255731701917698040899151141191157222674275667586237105943133533303":  dy(1, -3),
		"0.0009765621895593194304034301997172908516341970158100875900490072522676375203550845442358156030277274":  dy(1, -10),
		"1.2490457723982544258299170772810901230778294041298967190546692367971519657372939549576089903204171595":  dy(3, 0),
		"-1.4711276743037345918528755717617308518553063771832382624719635193438804556955538448934047882367721624": dy(-10, 0),
		"1.5666122507928218953667834766804659893575366343799209596604526832667264248016816060402348068574356245":  dy(239, 0),
		"1.5697963271282297525647978820048308980869637651332848973960412479662627308024349370227439377696501319":  dy(1000, 0),
	}
}

// The angles that the other tests compare with begin with digits that are well known.
func TestKnownDigits(t *testing.T) {
	for text, d := range decimals() {
		whole, part, _ := strings.Cut(text, ".")
		want, _ := new(big.Int).SetString(whole+part, 10)
		scale := new(big.Int).Exp(big.NewInt(10), big.NewInt(int64(len(part))), nil)
		found := angle(d)
		for _, bound := range []*big.Int{found.lo, found.hi} {
			// Digits that are left out make a number less in absolute value.
			got := new(big.Int).Quo(new(big.Int).Mul(bound, scale), power(known))
			if got.Cmp(want) != 0 {
				t.Errorf("the arctangent of %s begins with %s, want %s", short(d), got, text)
			}
		}
	}
}
