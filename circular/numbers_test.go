package circular_test

import (
	"encoding/binary"
	"math"
	"math/big"
	"slices"
	"strings"
	"sync"
	"testing"

	"exactreal/api"
)

const (
	top = math.MaxUint32
	// finest is the precision of the finest grid that a small interval may end on.
	finest = 2 * api.MaxWork
	// highest is the number of binary digits in front of the point that an end of a small interval may have.
	highest = api.MaxMagnitude
	// known is the precision to which the tests know a sine, well beyond the finest grid.
	known = finest + 200
	// guard is the number of binary digits by which they find it more precisely.
	guard = 128
	// halvings is the number of times that they halve an angle for it.
	halvings = 72
)

// number returns the number that a sign and a list stand for, whether they are valid or not.
func number(neg bool, a []uint32) *big.Int {
	var digits []byte
	for _, word := range slices.Backward(a) {
		digits = binary.BigEndian.AppendUint32(digits, word)
	}
	v := new(big.Int).SetBytes(digits)
	if neg {
		v.Neg(v)
	}
	return v
}

// elements returns the natural of the absolute value of v, made without the packages of the project.
func elements(v *big.Int) []uint32 {
	var a []uint32
	digits := v.FillBytes(make([]byte, (v.BitLen()+31)/32*4))
	for i := len(digits); i > 0; i -= 4 {
		a = append(a, binary.BigEndian.Uint32(digits[i-4:]))
	}
	return a
}

// wide returns the dyadic of man * 2^exp, made without the packages of the project, which must be in range.
func wide(man *big.Int, exp int) api.Dyadic {
	if man.Sign() == 0 {
		return api.Dyadic{}
	}
	zeros := int(man.TrailingZeroBits())
	odd := new(big.Int).Rsh(man, uint(zeros))
	return api.Dyadic{Man: api.Int{Neg: man.Sign() < 0, Mag: elements(odd)}, Exp: exp + zeros}
}

func dy(man int64, exp int) api.Dyadic {
	return wide(big.NewInt(man), exp)
}

// span returns the interval from lo to hi, whether it is valid or not.
func span(lo, hi api.Dyadic) api.Interval {
	return api.Interval{Lo: lo, Hi: hi}
}

func point(d api.Dyadic) api.Interval {
	return span(d, d)
}

// power returns 2^n.
func power(n int) *big.Int {
	return new(big.Int).Lsh(big.NewInt(1), uint(n))
}

// ones returns the number of n binary digits 1.
func ones(n int) *big.Int {
	return plus(power(n), -1)
}

// outer returns the number of n binary digits, at least two, of which only the first and the last one are 1.
func outer(n int) *big.Int {
	return plus(power(n-1), 1)
}

func negative(v *big.Int) *big.Int {
	return new(big.Int).Neg(v)
}

// plus returns v + n.
func plus(v *big.Int, n int64) *big.Int {
	return new(big.Int).Add(v, big.NewInt(n))
}

// times returns v * n.
func times(v *big.Int, n int64) *big.Int {
	return new(big.Int).Mul(v, big.NewInt(n))
}

func mantissa(d api.Dyadic) *big.Int {
	return number(d.Man.Neg, d.Man.Mag)
}

func opposite(d api.Dyadic) api.Dyadic {
	return wide(negative(mantissa(d)), d.Exp)
}

// mirrored returns the interval of all -x for the numbers x of a.
func mirrored(a api.Interval) api.Interval {
	return span(opposite(a.Hi), opposite(a.Lo))
}

// isValid reports whether d is valid.
func isValid(d api.Dyadic) bool {
	n := len(d.Man.Mag)
	if n == 0 {
		return !d.Man.Neg && d.Exp == 0
	}
	isOdd := d.Man.Mag[0]%2 == 1
	isInRange := -api.MaxExponent <= d.Exp && d.Exp <= api.MaxExponent && mantissa(d).BitLen() <= api.MaxBits
	return d.Man.Mag[n-1] != 0 && isOdd && isInRange
}

// scaled returns d in units of 2^-p, and whether it is an integer then; d must be valid.
func scaled(d api.Dyadic, p int) (*big.Int, bool) {
	if d.Exp+p < 0 {
		return nil, mantissa(d).Sign() == 0
	}
	return new(big.Int).Lsh(mantissa(d), uint(d.Exp+p)), true
}

// units returns the ends of a in units of 2^-w, and whether both are valid dyadics on this grid.
func units(a api.Interval, w int) (lo, hi *big.Int, ok bool) {
	if !isValid(a.Lo) || !isValid(a.Hi) {
		return nil, nil, false
	}
	lo, isOnLo := scaled(a.Lo, w)
	hi, isOnHi := scaled(a.Hi, w)
	return lo, hi, isOnLo && isOnHi
}

// compare returns -1, 0 or 1 for x less than, equal to or greater than y, for two ends of small intervals.
func compare(x, y api.Dyadic) int {
	v, _ := scaled(x, finest)
	w, _ := scaled(y, finest)
	return v.Cmp(w)
}

// beside returns d + n * 2^-finest, for an end d of a small interval.
func beside(d api.Dyadic, n int64) api.Dyadic {
	man, _ := scaled(d, finest)
	return wide(plus(man, n), -finest)
}

func same(x, y api.Dyadic) bool {
	return x.Man.Neg == y.Man.Neg && slices.Equal(x.Man.Mag, y.Man.Mag) && x.Exp == y.Exp
}

// identical reports whether two intervals are.
func identical(a, b api.Interval) bool {
	return same(a.Lo, b.Lo) && same(a.Hi, b.Hi)
}

// short returns a number in a form in which it can be printed.
func short(d api.Dyadic) string {
	text := mantissa(d).Text(16)
	if len(text) > 60 {
		text = text[:30] + ".." + text[len(text)-30:]
	}
	return text + " * 2^" + big.NewInt(int64(d.Exp)).String()
}

func shortSpan(a api.Interval) string {
	return "[" + short(a.Lo) + ", " + short(a.Hi) + "]"
}

// every returns each n-th element of a list.
func every[T any](n int, list []T) []T {
	var some []T
	for i := 0; i < len(list); i += n {
		some = append(some, list[i])
	}
	return some
}

// least returns the least positive number that a small interval may end at.
func least() api.Dyadic {
	return dy(1, -finest)
}

// greatest returns the greatest number that is specified, 2^MaxTurn.
func greatest() api.Dyadic {
	return dy(1, api.MaxTurn)
}

// isTurnable reports whether an end of a small interval is at most 2^MaxTurn in absolute value.
func isTurnable(d api.Dyadic) bool {
	return compare(d, greatest()) <= 0 && compare(opposite(d), greatest()) <= 0
}

// below returns the greatest number that a small interval may end at and that is not greater than n eighths of pi.
func below(n int64) api.Dyadic {
	eighths := times(rightAngle(), n)
	return wide(eighths.Rsh(eighths, known+guard-finest+2), -finest)
}

// lastTurn is the greatest number of quarter turns in 2^MaxTurn.
const lastTurn = 2734261102

// turns returns numbers of quarter turns, the least and the greatest ones among them.
func turns() []int64 {
	return []int64{1, 2, 3, 4, 5, 6, 7, 8, 9, 11, 12, 100, 1001, 1 << 20, 1<<31 - 1, 1 << 31, lastTurn - 1, lastTurn}
}

// positive returns positive numbers that are specified.
func positive() []api.Dyadic {
	all := []api.Dyadic{
		least(), dy(3, -finest), dy(5, -finest), dy(top, -finest), dy(1, 40-finest), wide(outer(200), -finest), wide(ones(201), -finest),
		dy(1, -api.MaxWork), dy(1, -api.MaxWork-1), dy(1, -api.MaxWork-65), dy(1, -1000), dy(1, -64), dy(1, -32), dy(1, -31), dy(1, -20), dy(1, -10), dy(1, -3), dy(3, -3), dy(1, -1), dy(3, -2), dy(1, 0), dy(5, -2), dy(3, -1), dy(2, 0), dy(3, 0), dy(4, 0), dy(5, 0), dy(6, 0), dy(7, 0), dy(10, 0), dy(22, 0), dy(355, 0), dy(710, 0), dy(1000000, 0), dy(355, -7), dy(1, 20), dy(1, 31), dy(top, -1), dy(top, 0), wide(ones(500), -494), wide(outer(finest), -finest), wide(ones(finest-3), -finest), wide(outer(api.MaxWork+30), -api.MaxWork),
		greatest(), beside(greatest(), -1), wide(outer(32+finest), -finest),
	}
	for _, n := range turns() {
		d := below(4 * n)
		all = append(all, d, beside(d, 1))
	}
	for _, n := range []int64{2, 6, 10, 14, 18, 4*lastTurn - 2, 4*lastTurn + 1} {
		d := below(n)
		all = append(all, d, beside(d, 1))
	}
	return all
}

// ends returns numbers that are specified, in ascending order, each once: those that positive returns, their opposites and zero.
func ends() []api.Dyadic {
	all := []api.Dyadic{{}}
	for _, d := range positive() {
		all = append(all, d, opposite(d))
	}
	slices.SortFunc(all, compare)
	return slices.CompactFunc(all, same)
}

// tooLarge returns positive numbers that a small interval may end at, but that are greater than 2^MaxTurn.
func tooLarge() []api.Dyadic {
	return []api.Dyadic{beside(greatest(), 1), wide(outer(33), 0), dy(3, 31), dy(1, 33), dy(1, 64), dy(1, 1000), dy(1, highest-1), wide(ones(highest), 0), wide(outer(highest+finest), -finest), wide(ones(highest+finest), -finest)}
}

// precisions returns working precisions, the least ones among them.
func precisions() []int {
	return []int{0, 1, 2, 3, 5, 12, 31, 32, 33, 64, 100}
}

// greatPrecisions returns working precisions, the greatest ones among them.
func greatPrecisions() []int {
	return []int{500, 1000, 2047, 2500, api.MaxWork - 65, api.MaxWork - 64, api.MaxWork - 63, api.MaxWork - 1, api.MaxWork}
}

// outside returns numbers that are no working precisions.
func outside() []int {
	return []int{-1, api.MaxWork + 1, -2, -32, -64, api.MaxWork + 2, api.MaxWork + 64, api.MaxWork + 128, -api.MaxWork, finest, finest + 1, -highest, -highest - 1, api.MaxExponent, -api.MaxExponent, api.MaxShift, -api.MaxShift, 1 << 32, -1 << 32, 1<<32 + 5, 1 << 62, -1 << 62, math.MaxInt32, math.MinInt32, math.MaxInt, math.MaxInt - 1, math.MinInt, math.MinInt + 1}
}

// bounds are two integers, one of which is not greater than a number in units of 2^-known, and the other one not less.
type bounds struct{ lo, hi *big.Int }

// about returns the bounds of a number that is given in units of 2^-(known + guard) and off by less than 2^guard of them.
func about(v *big.Int) bounds {
	units := new(big.Int).Rsh(v, guard)
	return bounds{plus(units, -1), plus(units, 2)}
}

// within returns bounds that are between those of -1 and 1, of a number that is.
func within(found bounds) bounds {
	one := power(known)
	if found.lo.Cmp(negative(one)) < 0 {
		found.lo = negative(one)
	}
	if found.hi.Cmp(one) > 0 {
		found.hi = one
	}
	return found
}

// exactly returns the bounds of n.
func exactly(n int64) bounds {
	v := times(power(known), n)
	return bounds{v, v}
}

// inverse returns the arctangent of 1 / n, for n of at least 2, off by less than 2^14 units of 2^-(known + guard), as the series has fewer than 4300 terms.
func inverse(n int64) *big.Int {
	total := new(big.Int)
	part := new(big.Int).Quo(power(known+guard), big.NewInt(n))
	for k := int64(1); part.Sign() != 0; k += 2 {
		term := new(big.Int).Quo(part, big.NewInt(k))
		if k%4 == 3 {
			term.Neg(term)
		}
		total.Add(total, term)
		part.Quo(part, big.NewInt(n*n))
	}
	return total
}

// rightAngle returns pi / 2, off by less than 2^16 units of 2^-(known + guard); it finds it once.
var rightAngle = sync.OnceValue(func() *big.Int {
	// The tangent of the sum of two angles is (x + y) / (1 - x * y), so the sum of these is a quarter of pi.
	half := new(big.Int).Add(inverse(2), inverse(3))
	return half.Lsh(half, 1)
})

// powerOfI returns the real and the imaginary part of e^(x * i) for an x of at most 2^-40 in absolute value, in units of 2^-(known + guard), as x is. Both are off by less than 2^9 of them, as there are fewer than 200 terms.
func powerOfI(x *big.Int) (cosine, sine *big.Int) {
	term, sine, cosine := power(known+guard), new(big.Int), power(known+guard)
	for k := int64(1); term.Sign() != 0; k++ {
		term = new(big.Int).Mul(term, x)
		term.Quo(term.Rsh(term, known+guard), big.NewInt(k))
		total := sine
		if k%2 == 0 {
			total = cosine
		}
		if k%4 < 2 {
			total.Add(total, term)
		} else {
			total.Sub(total, term)
		}
	}
	return cosine, sine
}

// circle returns the cosine and the sine of an angle of at most 2^32, which is given in units of 2^-(known + guard - halvings). Both are off by less than 2^83 units of 2^-(known + guard). Unlike the package, it does not need pi: it halves the angle until it is small, and squares a complex number as often, which doubles the error, and adds less than 2.
func circle(x *big.Int) (cosine, sine *big.Int) {
	cosine, sine = powerOfI(x)
	for range halvings {
		sum, difference := new(big.Int).Add(cosine, sine), new(big.Int).Sub(cosine, sine)
		sine = new(big.Int).Mul(cosine, sine)
		sine.Rsh(sine, known+guard-1)
		cosine = sum.Mul(sum, difference)
		cosine.Rsh(cosine, known+guard)
	}
	return cosine, sine
}

// place is a number with what the tests know of it.
type place struct {
	d            api.Dyadic
	cosine, sine bounds
	// last is the greatest number of quarter turns that is not greater than d, and first the least one that is not less.
	last, first int64
}

// at returns what the tests know of a number that is specified.
func at(d api.Dyadic) place {
	if mantissa(d).Sign() == 0 {
		return place{d, exactly(1), exactly(0), 0, 0}
	}
	x, _ := scaled(d, known+guard-halvings)
	cosine, sine := circle(x)
	units, _ := scaled(d, known+guard)
	// Div rounds down, for a divisor that is positive. No number but zero is a multiple of pi / 2.
	turns := new(big.Int).Div(units, rightAngle()).Int64()
	return place{d, within(about(cosine)), within(about(sine)), turns, turns + 1}
}

// places returns what the tests know of numbers.
func places(all []api.Dyadic) []place {
	var found []place
	for _, d := range all {
		found = append(found, at(d))
	}
	return found
}

// placesOfEnds returns that of the numbers that ends returns, in the same order; it finds it once.
var placesOfEnds = sync.OnceValue(func() []place {
	return places(ends())
})

// mirror returns what the tests know of -d.
func mirror(p place) place {
	return place{opposite(p.d), p.cosine, bounds{negative(p.sine.hi), negative(p.sine.lo)}, -p.first, -p.last}
}

// decimal is a number with the digits that its sine and its cosine are known to begin with.
type decimal struct {
	d            api.Dyadic
	sine, cosine string
}

// decimals returns digits that were computed with another program, which finds pi by means and adds the series of both functions after whole turns have been taken off.
func decimals() []decimal {
	return []decimal{
		{api.Dyadic{}, "0.0000000000000000000000000000000000000000000000000000000000000000000000000000000000000000000000000000", "1.0000000000000000000000000000000000000000000000000000000000000000000000000000000000000000000000000000"},
		{dy(1, 0), "0.8414709848078965066525023216302989996225630607983710656727517099919104043912396689486397435430526958", "0.5403023058681397174009366074429766037323104206179222276700972553811003947744717645179518560871830893"},
		{dy(-1, 0), "-0.8414709848078965066525023216302989996225630607983710656727517099919104043912396689486397435430526958", "0.5403023058681397174009366074429766037323104206179222276700972553811003947744717645179518560871830893"},
		{dy(1, -1), "0.4794255386042030002732879352155713880818033679406006751886166131255350002878148322096312746843482690", "0.8775825618903727161162815826038296519916451971097440529976108683159507632742139474057941840846822583"},
		{dy(3, -2), "0.6816387600233341667332419527798939353383823946592299092136252621511003888870037827531452748497819119", "0.7316888688738208863118387530000845438405412760507724825076832202207500825015694995409675626102011749"},
		{dy(1, -10), "0.0009765623447795782989069101681197863668024180462082584927181288208532330142060083771292437312456671", "0.9999995231628796924863692029498890692155102352082434665649775964632959757744999883524270280458150556"},
		{dy(2, 0), "0.9092974268256816953960198659117448427022549714478902683789730115309673015407835446201266889249593803", "-0.4161468365471423869975682295007621897660007710755448907551499737819649361240791690745317778601691403"},
		{dy(-3, 0), "-0.1411200080598672221007448028081102798469332642522655841518826412324220099670144719112821728534498637", "-0.9899924966004454572715727947312613023936790966155883288140859329283291975131332204282944793556926021"},
		{dy(5, 0), "-0.9589242746631384688931544061559939733524615439646017781316724542351025580865596030769959554295328665", "0.2836621854632262644666391715135573083344225922522159449303590665861514567673827022861769816683445732"},
		{dy(22, 0), "-0.0088513092904038759216902568157723324632892039513325664423308352980895520146283534679177916515312897", "-0.9999608263946371264541747392126937741359884674794192930593822049637733390320124061849113139482490813"},
		{dy(355, 0), "-0.0000301443533594884492143302800086500995902558070663246491057898482406735383654727128353102367000340", "-0.9999999995456589801659358416927540811238249514999282447715512037283576368545459210802018721130394813"},
		{dy(-1000001, -1), "0.3157224164662002865884351999956268564534387349934121452694262890662939404836240786087191455909614063", "-0.9488515983760280214009155844315964658998660586037085491827200841477528494925325889152636018679467336"},
		{dy(1, 32), "-0.4619865795138349446673032422647666967878339541869012666881464334843566315983197730467955350106631001", "-0.8868869151978210701089422645054396860015161654476587006343492124328955406850702919227346707118618963"},
		{dy(-1, 32), "0.4619865795138349446673032422647666967878339541869012666881464334843566315983197730467955350106631001", "-0.8868869151978210701089422645054396860015161654476587006343492124328955406850702919227346707118618963"},
	}
}

// withoutPoint returns the digits of a decimal as an integer, and the power of ten that it is a multiple of one over.
func withoutPoint(text string) (digits, scale *big.Int) {
	whole, part, _ := strings.Cut(text, ".")
	digits, _ = new(big.Int).SetString(whole+part, 10)
	return digits, new(big.Int).Exp(big.NewInt(10), big.NewInt(int64(len(part))), nil)
}

// checkDigits checks that a number begins with known digits.
func checkDigits(t *testing.T, about string, found bounds, text string) {
	t.Helper()
	want, scale := withoutPoint(text)
	for _, bound := range []*big.Int{found.lo, found.hi} {
		// Digits that are left out make a number less in absolute value.
		got := new(big.Int).Quo(new(big.Int).Mul(bound, scale), power(known))
		if got.Cmp(want) != 0 {
			t.Errorf("%s begins with %s, want %s", about, got, text)
		}
	}
}

// The sines and cosines that the other tests compare with begin with digits that are known.
func TestKnownDigits(t *testing.T) {
	for _, c := range decimals() {
		p := at(c.d)
		checkDigits(t, "the sine of "+short(c.d), p.sine, c.sine)
		checkDigits(t, "the cosine of "+short(c.d), p.cosine, c.cosine)
	}
	pi := new(big.Int).Lsh(rightAngle(), 1)
	checkDigits(t, "pi", about(pi), "3.1415926535897932384626433832795028841971693993751058209749445923078164062862089986280348253421170679")
}

// The place of a number among the quarter turns agrees with the signs of its sine and cosine.
func TestKnownQuarters(t *testing.T) {
	signs := [4][2]int{{1, 1}, {1, -1}, {-1, -1}, {-1, 1}}
	for _, p := range placesOfEnds() {
		if mantissa(p.d).Sign() == 0 {
			continue
		}
		want := signs[p.last&3]
		for _, v := range []*big.Int{p.sine.lo, p.sine.hi} {
			if v.Sign() != want[0] {
				t.Errorf("the sine of %s has the sign %d, but %d quarter turns are less", short(p.d), v.Sign(), p.last)
			}
		}
		for _, v := range []*big.Int{p.cosine.lo, p.cosine.hi} {
			if v.Sign() != want[1] {
				t.Errorf("the cosine of %s has the sign %d, but %d quarter turns are less", short(p.d), v.Sign(), p.last)
			}
		}
	}
}
