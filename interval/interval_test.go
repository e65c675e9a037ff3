package interval_test

import (
	"encoding/binary"
	"math"
	"math/big"
	"math/rand/v2"
	"slices"
	"testing"

	"exactreal/api"
	"exactreal/interval"
)

const (
	top      = math.MaxUint32
	highest  = api.MaxExponent
	lowest   = -api.MaxExponent
	coarsest = -api.MaxMagnitude
	finest   = 2 * api.MaxWork
)

// number returns the number that a sign and a list stand for, whether they are valid or not.
func number(neg bool, a []uint32) *big.Int {
	var digits []byte
	for _, word := range slices.Backward(a) {
		digits = binary.BigEndian.AppendUint32(digits, word)
	}
	v := new(big.Int).SetBytes(digits)
	if neg {
		v.Neg(v)
	}
	return v
}

// elements returns the natural of the absolute value of v, made without the packages of the project.
func elements(v *big.Int) []uint32 {
	var a []uint32
	digits := v.FillBytes(make([]byte, (v.BitLen()+31)/32*4))
	for i := len(digits); i > 0; i -= 4 {
		a = append(a, binary.BigEndian.Uint32(digits[i-4:]))
	}
	return a
}

func toInt(v *big.Int) api.Int {
	return api.Int{Neg: v.Sign() < 0, Mag: elements(v)}
}

// of returns the valid dyadic of man * 2^exp and true, made without the packages of the project; or a zero value and false if there is none.
func of(man *big.Int, exp int) (api.Dyadic, bool) {
	if man.Sign() == 0 {
		return api.Dyadic{}, true
	}
	zeros := int(man.TrailingZeroBits())
	odd := new(big.Int).Rsh(man, uint(zeros))
	exp += zeros
	if odd.BitLen() > api.MaxBits || exp < lowest || exp > highest {
		return api.Dyadic{}, false
	}
	return api.Dyadic{Man: toInt(odd), Exp: exp}, true
}

// wide returns the valid dyadic of man * 2^exp, which there must be.
func wide(man *big.Int, exp int) api.Dyadic {
	d, ok := of(man, exp)
	if !ok {
		panic("there is no such dyadic")
	}
	return d
}

func dy(man int64, exp int) api.Dyadic {
	return wide(big.NewInt(man), exp)
}

// span returns the interval from lo to hi, whether it is valid or not.
func span(lo, hi api.Dyadic) api.Interval {
	return api.Interval{Lo: lo, Hi: hi}
}

// whole returns the interval between two integers.
func whole(lo, hi int64) api.Interval {
	return span(dy(lo, 0), dy(hi, 0))
}

// frac returns the valid fraction num / den, for den of at least 1.
func frac(num, den *big.Int) api.Rat {
	x := new(big.Rat).SetFrac(num, den)
	return api.Rat{Num: toInt(x.Num()), Den: elements(x.Denom())}
}

func rat(num, den int64) api.Rat {
	return frac(big.NewInt(num), big.NewInt(den))
}

// power returns 2^n.
func power(n int) *big.Int {
	return new(big.Int).Lsh(big.NewInt(1), uint(n))
}

// ones returns the number of n binary digits 1.
func ones(n int) *big.Int {
	return new(big.Int).Sub(power(n), big.NewInt(1))
}

// outer returns the number of n binary digits, at least two, of which only the first and the last one are 1.
func outer(n int) *big.Int {
	return new(big.Int).Add(power(n-1), big.NewInt(1))
}

func negative(v *big.Int) *big.Int {
	return new(big.Int).Neg(v)
}

func opposite(d api.Dyadic) api.Dyadic {
	return api.Dyadic{Man: toInt(negative(number(d.Man.Neg, d.Man.Mag))), Exp: d.Exp}
}

// identical reports whether two dyadics are.
func identical(a, b api.Dyadic) bool {
	return a.Man.Neg == b.Man.Neg && slices.Equal(a.Man.Mag, b.Man.Mag) && a.Exp == b.Exp
}

func identicalSpans(a, b api.Interval) bool {
	return identical(a.Lo, b.Lo) && identical(a.Hi, b.Hi)
}

// short returns a number in a form in which it can be printed.
func short(v *big.Int) string {
	text := v.Text(16)
	if len(text) > 60 {
		return text[:30] + ".." + text[len(text)-30:]
	}
	return text
}

func shortDyadic(d api.Dyadic) string {
	return short(number(d.Man.Neg, d.Man.Mag)) + " * 2^" + big.NewInt(int64(d.Exp)).String()
}

func shortSpan(a api.Interval) string {
	return "[" + shortDyadic(a.Lo) + ", " + shortDyadic(a.Hi) + "]"
}

func shortRat(x api.Rat) string {
	return short(number(x.Num.Neg, x.Num.Mag)) + " / " + short(number(false, x.Den))
}

// scaled returns d * 2^MaxExponent, which is an integer for all valid dyadics.
func scaled(d api.Dyadic) *big.Int {
	return new(big.Int).Lsh(number(d.Man.Neg, d.Man.Mag), uint(d.Exp+highest))
}

// from returns n / 2^MaxExponent and true, or a zero value and false if there is no such dyadic.
func from(n *big.Int) (api.Dyadic, bool) {
	return of(n, lowest)
}

// scaledRat returns both parts of x * 2^MaxExponent, of which the second one is not negative.
func scaledRat(x api.Rat) (*big.Int, *big.Int) {
	return new(big.Int).Lsh(number(x.Num.Neg, x.Num.Mag), highest), number(false, x.Den)
}

// mantissas returns odd numbers of one to six elements, the same ones whenever it is called.
func mantissas() []*big.Int {
	var all []*big.Int
	for _, a := range [][]uint32{{1}, {3}, {7}, {1<<31 + 1}, {top}, {1, 1}, {top, 1}, {1, 1 << 31}, {top, top}, {1, 0, 1}, {top, top, top}} {
		all = append(all, number(false, a))
	}
	random := rand.New(rand.NewPCG(10, 1))
	for n := 1; n <= 6; n++ {
		a := make([]uint32, n)
		for i := range a {
			a[i] = random.Uint32()
		}
		a[0] |= 1
		all = append(all, number(false, a))
	}
	return all
}

// ascending returns the dyadics in ascending order, each once.
func ascending(all []api.Dyadic) []api.Dyadic {
	slices.SortFunc(all, func(a, b api.Dyadic) int {
		return scaled(a).Cmp(scaled(b))
	})
	return slices.CompactFunc(all, identical)
}

// samples returns dyadics with all mantissas, both signs and exponents of all kinds, and zero, in ascending order.
func samples() []api.Dyadic {
	all := []api.Dyadic{{}}
	for i, man := range mantissas() {
		exps := []int{0, -1, 31, -32, -100, 1000, highest, lowest}
		for j, exp := range exps {
			if (i+j)%3 == 0 || i < 2 {
				all = append(all, wide(man, exp), wide(negative(man), exp))
			}
		}
	}
	return ascending(all)
}

// extremes returns the dyadics at the ends of the range and some others, in ascending order.
func extremes() []api.Dyadic {
	all := []api.Dyadic{{}}
	for _, d := range []api.Dyadic{wide(ones(api.MaxBits), highest), dy(1, highest), wide(outer(api.MaxBits), 1-api.MaxBits), dy(1, 0), wide(ones(api.MaxBits), lowest), dy(5, -3), dy(1, lowest), dy(3, lowest)} {
		all = append(all, d, opposite(d))
	}
	return ascending(all)
}

// spans returns all valid intervals with ends among the given ones, which ascend.
func spans(ends []api.Dyadic) []api.Interval {
	var all []api.Interval
	for i, lo := range ends {
		for _, hi := range ends[i:] {
			all = append(all, span(lo, hi))
		}
	}
	return all
}

// every returns every n-th element of a list, but at least one.
func every[T any](n int, list []T) []T {
	var all []T
	for i, element := range list {
		if i%n == n/2 || len(list) <= n/2 {
			all = append(all, element)
		}
	}
	return all
}

// invalid returns dyadics that are not valid, each in one respect.
func invalid() []api.Dyadic {
	all := []api.Dyadic{
		{Exp: 1}, {Exp: -1}, {Exp: math.MinInt}, {Man: api.Int{Neg: true}}, {Man: api.Int{Mag: []uint32{0}}}, {Man: api.Int{Mag: []uint32{1, 0}}}, {Man: api.Int{Neg: true, Mag: []uint32{3, 7, 0}}, Exp: -2},
		{Man: api.Int{Mag: elements(ones(api.MaxBits + 1))}}, {Man: api.Int{Neg: true, Mag: elements(outer(api.MaxBits + 1))}, Exp: -5}, {Man: api.Int{Mag: []uint32{0, 1}}},
	}
	for _, exp := range []int{highest + 1, lowest - 1, 2 * highest, math.MaxInt, math.MinInt} {
		all = append(all, api.Dyadic{Man: api.Int{Mag: []uint32{1}}, Exp: exp}, api.Dyadic{Man: api.Int{Neg: true, Mag: []uint32{5, 1}}, Exp: exp})
	}
	for _, even := range []uint32{2, 4, 6, top - 1} {
		all = append(all, api.Dyadic{Man: api.Int{Mag: []uint32{even}}}, api.Dyadic{Man: api.Int{Neg: true, Mag: []uint32{even, 1}}, Exp: -3})
	}
	return all
}

// P10.1

func TestValid(t *testing.T) {
	for _, ends := range [][]api.Dyadic{every(2, samples()), extremes()} {
		for i, lo := range ends {
			for j, hi := range ends {
				if got := interval.Valid(span(lo, hi)); got != (i <= j) {
					t.Errorf("Valid(%s) = %v", shortSpan(span(lo, hi)), got)
				}
			}
		}
	}
	if !interval.Valid(api.Interval{}) {
		t.Error("the interval from 0 to 0 is not valid")
	}
}

func TestValidWithEndsThatAreNot(t *testing.T) {
	least, greatest := wide(negative(ones(api.MaxBits)), highest), wide(ones(api.MaxBits), highest)
	for _, d := range invalid() {
		for _, a := range []api.Interval{span(d, d), span(d, greatest), span(least, d), span(d, api.Dyadic{}), span(api.Dyadic{}, d)} {
			if interval.Valid(a) {
				t.Errorf("%s is valid", shortSpan(a))
			}
		}
		for _, e := range invalid() {
			if interval.Valid(span(d, e)) {
				t.Errorf("%s is valid", shortSpan(span(d, e)))
			}
		}
	}
}

// checkSpan checks an interval that a call has returned without an error.
func checkSpan(t *testing.T, call string, got, want api.Interval, args ...string) {
	t.Helper()
	if !identicalSpans(got, want) || !interval.Valid(got) {
		t.Errorf("%s%v = %s, want %s", call, args, shortSpan(got), shortSpan(want))
	}
}

func TestPoint(t *testing.T) {
	for _, d := range slices.Concat(samples(), extremes()) {
		checkSpan(t, "Point", interval.Point(d), span(d, d), shortDyadic(d))
	}
}

func TestMake(t *testing.T) {
	for _, ends := range [][]api.Dyadic{every(2, samples()), extremes()} {
		for i, lo := range ends {
			for j, hi := range ends {
				want, wantErr := span(lo, hi), api.OK
				if i > j {
					want, wantErr = api.Interval{}, api.ErrArg
				}
				got, err := interval.Make(lo, hi)
				if err != wantErr {
					t.Errorf("Make(%s, %s): error %d", shortDyadic(lo), shortDyadic(hi), err)
				}
				checkSpan(t, "Make", got, want, shortDyadic(lo), shortDyadic(hi))
			}
		}
	}
}

// Numbers that differ in their last digit only.
func TestMakeOfNeighbours(t *testing.T) {
	for _, man := range append(mantissas(), ones(api.MaxBits), outer(api.MaxBits)) {
		for _, exp := range []int{0, -40, lowest} {
			lo, hi := wide(new(big.Int).Sub(man, big.NewInt(1)), exp), wide(man, exp)
			for _, a := range []api.Interval{span(lo, hi), span(opposite(hi), opposite(lo))} {
				got, err := interval.Make(a.Lo, a.Hi)
				if err != api.OK {
					t.Errorf("Make of %s: error %d", shortSpan(a), err)
				}
				checkSpan(t, "Make", got, a)
				if got, err := interval.Make(a.Hi, a.Lo); err != api.ErrArg || !identicalSpans(got, api.Interval{}) {
					t.Errorf("Make of %s in the other order: %s, error %d", shortSpan(a), shortSpan(got), err)
				}
			}
		}
	}
}

// checkDyadic checks the result of a call, where n / 2^(MaxExponent + places) is its exact value, and isLarge whether the call is refused although there may be a dyadic of this value.
func checkDyadic(t *testing.T, call string, got api.Dyadic, err api.Errno, n *big.Int, places int, isLarge bool, a api.Interval) {
	t.Helper()
	want, ok := of(n, lowest-places)
	wantErr := api.OK
	if !ok || isLarge {
		want, wantErr = api.Dyadic{}, api.ErrLarge
	}
	if err != wantErr || !identical(got, want) {
		t.Errorf("%s(%s) = %s, error %d, want %s, error %d", call, shortSpan(a), shortDyadic(got), err, shortDyadic(want), wantErr)
	}
}

func checkMeasures(t *testing.T, a api.Interval) {
	t.Helper()
	lo, hi := scaled(a.Lo), scaled(a.Hi)
	got, err := interval.Width(a)
	checkDyadic(t, "Width", got, err, new(big.Int).Sub(hi, lo), 0, false, a)
	sum := new(big.Int).Add(lo, hi)
	_, ok := from(sum)
	got, err = interval.Mid(a)
	checkDyadic(t, "Mid", got, err, sum, 1, !ok, a)
}

func TestWidthAndMid(t *testing.T) {
	for _, a := range slices.Concat(spans(every(2, samples())), spans(extremes())) {
		checkMeasures(t, a)
	}
	for lo := int64(-20); lo <= 20; lo++ {
		for hi := lo; hi <= 20; hi++ {
			checkMeasures(t, whole(lo, hi))
			checkMeasures(t, span(dy(lo, -3), dy(hi, -3)))
			checkMeasures(t, span(dy(lo, 40), dy(hi, 40)))
		}
	}
}

func TestWidthAndMidOfExamples(t *testing.T) {
	for _, c := range []struct {
		a          api.Interval
		width, mid api.Dyadic
	}{
		{whole(0, 0), dy(0, 0), dy(0, 0)}, {whole(3, 3), dy(0, 0), dy(3, 0)}, {whole(-3, -3), dy(0, 0), dy(-3, 0)}, {whole(-2, 5), dy(7, 0), dy(3, -1)}, {whole(-5, 2), dy(7, 0), dy(-3, -1)}, {whole(-4, 4), dy(1, 3), dy(0, 0)}, {whole(0, 1), dy(1, 0), dy(1, -1)}, {whole(-1, 0), dy(1, 0), dy(-1, -1)}, {whole(1, 4), dy(3, 0), dy(5, -1)}, {whole(6, 10), dy(1, 2), dy(1, 3)},
		{span(dy(1, -2), dy(1, -1)), dy(1, -2), dy(3, -3)}, {span(dy(-3, -4), dy(5, 1)), dy(163, -4), dy(157, -5)}, {span(dy(1, 40), wide(outer(41), 0)), dy(1, 0), wide(outer(42), -1)}, {span(dy(1, 0), dy(1, 1000)), wide(ones(1000), 0), wide(outer(1001), -1)}, {span(dy(-1, 64), wide(ones(64), 0)), wide(ones(65), 0), dy(-1, -1)},
	} {
		if got, err := interval.Width(c.a); err != api.OK || !identical(got, c.width) {
			t.Errorf("Width(%s) = %s, error %d", shortSpan(c.a), shortDyadic(got), err)
		}
		if got, err := interval.Mid(c.a); err != api.OK || !identical(got, c.mid) {
			t.Errorf("Mid(%s) = %s, error %d", shortSpan(c.a), shortDyadic(got), err)
		}
	}
}

// The operations of chapter 8 have errors for results that are too long, too great or too fine: Mid has one for a sum that is too great, although its half is not.
func TestWidthAndMidAtTheLimits(t *testing.T) {
	longest := ones(api.MaxBits)
	for _, c := range []struct {
		name       string
		a          api.Interval
		width, mid api.Errno
	}{
		{"a sum and a difference that are just not too long", span(dy(1, lowest), dy(1, -1)), api.OK, api.ErrLarge}, {"a difference of MaxBits digits and a sum of one more", span(dy(1, lowest), dy(1, 0)), api.OK, api.ErrLarge}, {"both too long", span(dy(1, lowest), dy(1, 1)), api.ErrLarge, api.ErrLarge}, {"a difference with one digit more", span(dy(-1, lowest), dy(1, 0)), api.ErrLarge, api.ErrLarge},
		{"exponents that are far apart", span(dy(1, lowest), dy(1, highest)), api.ErrLarge, api.ErrLarge}, {"far apart, but not too long", span(dy(1, 0), dy(1, highest-1)), api.OK, api.OK}, {"far apart and too long", span(dy(1, -1), dy(1, highest)), api.ErrLarge, api.ErrLarge}, {"exactly MaxBits digits", span(dy(-1, 1-api.MaxBits), dy(1, -1)), api.OK, api.OK},
		{"the greatest power", span(dy(1, highest), dy(1, highest)), api.OK, api.ErrLarge}, {"its opposite", span(dy(-1, highest), dy(-1, highest)), api.OK, api.ErrLarge}, {"both", span(dy(-1, highest), dy(1, highest)), api.ErrLarge, api.OK}, {"the greatest powers", span(dy(1, highest-1), dy(1, highest)), api.OK, api.OK}, {"with zero", span(dy(0, 0), dy(1, highest)), api.OK, api.OK},
		{"the greatest", span(wide(longest, highest), wide(longest, highest)), api.OK, api.ErrLarge}, {"the greatest and its opposite", span(wide(negative(longest), highest), wide(longest, highest)), api.ErrLarge, api.OK}, {"the next lower one", span(wide(longest, highest-1), wide(longest, highest-1)), api.OK, api.OK},
		{"the least power", span(dy(1, lowest), dy(1, lowest)), api.OK, api.OK}, {"from zero to it", span(dy(0, 0), dy(1, lowest)), api.OK, api.ErrLarge}, {"from its opposite", span(dy(-1, lowest), dy(1, lowest)), api.OK, api.OK}, {"an odd sum", span(dy(1, lowest), dy(2, lowest)), api.OK, api.ErrLarge}, {"an even sum", span(dy(1, lowest), dy(3, lowest)), api.OK, api.OK}, {"an odd sum one place above", span(dy(1, lowest+1), dy(2, lowest+1)), api.OK, api.OK},
		{"a carry to the least length", span(wide(longest, 0), dy(1, 0)), api.OK, api.OK}, {"a long one and the next", span(wide(longest, -9), dy(1, api.MaxBits-9)), api.OK, api.ErrLarge},
	} {
		if scaled(c.a.Lo).Cmp(scaled(c.a.Hi)) > 0 {
			c.a = span(c.a.Hi, c.a.Lo)
		}
		checkMeasures(t, c.a)
		_, width := interval.Width(c.a)
		_, mid := interval.Mid(c.a)
		if width != c.width || mid != c.mid {
			t.Errorf("%s: errors %d, %d", c.name, width, mid)
		}
		mirrored := span(opposite(c.a.Hi), opposite(c.a.Lo))
		checkMeasures(t, mirrored)
	}
}

// P10.2

// checkHas checks Has for an interval and a fraction.
func checkHas(t *testing.T, a api.Interval, x api.Rat) {
	t.Helper()
	num, den := scaledRat(x)
	lo, hi := scaled(a.Lo), scaled(a.Hi)
	want := lo.Mul(lo, den).Cmp(num) <= 0 && hi.Mul(hi, den).Cmp(num) >= 0
	if got := interval.Has(a, x); got != want {
		t.Errorf("Has(%s, %s) = %v", shortSpan(a), shortRat(x), got)
	}
}

// beside returns the fraction that is n thirds of 2^-places greater than d, for exponents for which this does not take long.
func beside(d api.Dyadic, n int64, places int) api.Rat {
	x := new(big.Rat).SetInt(number(d.Man.Neg, d.Man.Mag))
	scale := new(big.Rat).SetInt(power(max(d.Exp, -d.Exp)))
	if d.Exp < 0 {
		scale.Inv(scale)
	}
	x.Mul(x, scale)
	third := new(big.Rat).SetFrac(big.NewInt(n), new(big.Int).Lsh(big.NewInt(3), uint(places)))
	x.Add(x, third)
	return frac(x.Num(), x.Denom())
}

// Fractions at, just below and just above each end, and far from it.
func TestHas(t *testing.T) {
	var ends []api.Dyadic
	for _, d := range samples() {
		if d.Exp >= -1000 && d.Exp <= 1000 {
			ends = append(ends, d)
		}
	}
	for _, a := range spans(every(2, ends)) {
		for _, end := range []api.Dyadic{a.Lo, a.Hi} {
			for n := int64(-1); n <= 1; n++ {
				checkHas(t, a, beside(end, n, 0))
				checkHas(t, a, beside(end, n, 300))
			}
		}
		checkHas(t, a, rat(0, 1))
		checkHas(t, a, rat(-2, 7))
		checkHas(t, a, frac(outer(200), ones(77)))
	}
}

func TestHasOfExamples(t *testing.T) {
	for _, c := range []struct {
		a              api.Interval
		inside, beyond []api.Rat
	}{
		{whole(0, 1), []api.Rat{rat(0, 1), rat(1, 3), rat(1, 2), rat(2, 3), rat(1, 1), rat(1, 1000)}, []api.Rat{rat(-1, 1000), rat(-1, 1), rat(1001, 1000), rat(4, 3), rat(2, 1)}}, {whole(-2, -1), []api.Rat{rat(-2, 1), rat(-5, 3), rat(-3, 2), rat(-1, 1)}, []api.Rat{rat(-7, 3), rat(-2, 3), rat(0, 1), rat(5, 3), rat(3, 2), rat(1, 1)}},
		{whole(-1, 2), []api.Rat{rat(-1, 1), rat(-1, 3), rat(0, 1), rat(1, 3), rat(2, 1)}, []api.Rat{rat(-4, 3), rat(-2, 1), rat(7, 3), rat(3, 1)}}, {whole(0, 0), []api.Rat{rat(0, 1)}, []api.Rat{rat(1, 1), rat(-1, 1), rat(1, 1<<40), rat(-1, 1<<40)}}, {whole(3, 3), []api.Rat{rat(3, 1)}, []api.Rat{rat(-3, 1), rat(8, 3), rat(10, 3), rat(1, 3), rat(0, 1)}},
		{span(dy(5, -4), dy(11, -5)), []api.Rat{rat(1, 3), rat(5, 16), rat(11, 32), rat(21, 64)}, []api.Rat{rat(9, 32), rat(2, 7), rat(3, 8), rat(4, 11), rat(5, 17), rat(-1, 3)}}, {span(dy(3, -1), dy(3, -1)), []api.Rat{rat(3, 2)}, []api.Rat{rat(1, 1), rat(2, 1), rat(2, 3), rat(-3, 2)}},
	} {
		for _, x := range c.inside {
			if !interval.Has(c.a, x) {
				t.Errorf("%s is not in %s", shortRat(x), shortSpan(c.a))
			}
		}
		for _, x := range c.beyond {
			if interval.Has(c.a, x) {
				t.Errorf("%s is in %s", shortRat(x), shortSpan(c.a))
			}
		}
	}
}

// Ends at the limits, and fractions with parts of many digits.
func TestHasOfLongNumbers(t *testing.T) {
	one := big.NewInt(1)
	fractions := []api.Rat{rat(0, 1), rat(1, 1), rat(-1, 3), rat(5, 8), frac(power(highest), one), frac(negative(power(highest)), one), frac(one, power(highest)), frac(big.NewInt(-1), power(highest)), frac(outer(highest+1), one), frac(one, outer(highest)), frac(one, outer(highest+1)), frac(ones(highest), power(highest)), frac(power(highest), ones(highest)), frac(one, big.NewInt(0).Mul(big.NewInt(3), power(highest))), frac(power(200000), one), frac(negative(power(200000)), one), frac(one, power(200000))}
	ends := extremes()
	for i, d := range ends {
		for _, x := range fractions {
			checkHas(t, span(ends[max(i-1, 0)], d), x)
			if i%3 == 0 {
				checkHas(t, span(d, d), x)
			}
		}
	}
}

// checkPair checks everything that P10.2 says of two intervals, by the order of their ends.
func checkPair(t *testing.T, a, b api.Interval) {
	t.Helper()
	aLo, aHi, bLo, bHi := scaled(a.Lo), scaled(a.Hi), scaled(b.Lo), scaled(b.Hi)
	names := []string{shortSpan(a), shortSpan(b)}
	lower, upper := aLo.Cmp(bLo), aHi.Cmp(bHi)
	meet, hull := a, a
	if lower < 0 {
		meet.Lo = b.Lo
	} else {
		hull.Lo = b.Lo
	}
	if upper > 0 {
		meet.Hi = b.Hi
	} else {
		hull.Hi = b.Hi
	}
	order := 0
	if aHi.Cmp(bLo) < 0 {
		order = -1
	} else if bHi.Cmp(aLo) < 0 {
		order = 1
	}
	if order != 0 {
		meet = api.Interval{}
	}
	if got := interval.Cmp(a, b); got != order {
		t.Errorf("Cmp%v = %d", names, got)
	}
	if got := interval.Within(a, b); got != (lower >= 0 && upper <= 0) {
		t.Errorf("Within%v = %v", names, got)
	}
	if got := interval.Same(a, b); got != (lower == 0 && upper == 0) {
		t.Errorf("Same%v = %v", names, got)
	}
	got, ok := interval.Meet(a, b)
	if ok != (order == 0) {
		t.Errorf("Meet%v: %v", names, ok)
	}
	checkSpan(t, "Meet", got, meet, names...)
	checkSpan(t, "Hull", interval.Hull(a, b), hull, names...)
}

func TestPairs(t *testing.T) {
	for _, all := range [][]api.Interval{spans(every(8, samples())), spans(every(2, extremes()))} {
		for _, a := range all {
			for _, b := range all {
				checkPair(t, a, b)
			}
		}
	}
	wholes := spans(samples())
	for i, a := range wholes {
		// Steps without a common divisor reach neighbours as well as intervals that are far away.
		for _, step := range []int{0, 1, 89, 1009} {
			b := wholes[(i+step)%len(wholes)]
			checkPair(t, a, b)
			checkPair(t, b, a)
		}
	}
}

// quarters returns the numbers of an interval that are multiples of 1/4, times 4, for ends that are multiples of 1/2.
func quarters(a api.Interval) []int {
	var all []int
	for n := -20; n <= 20; n++ {
		if d := scaled(dy(int64(n), -2)); d.Cmp(scaled(a.Lo)) >= 0 && d.Cmp(scaled(a.Hi)) <= 0 {
			all = append(all, n)
		}
	}
	return all
}

// least returns the interval from the least to the greatest of some multiples of 1/4, which are given times 4.
func least(all []int) api.Interval {
	if len(all) == 0 {
		return api.Interval{}
	}
	return span(dy(int64(slices.Min(all)), -2), dy(int64(slices.Max(all)), -2))
}

// checkNumbers checks everything that P10.2 says of two small intervals, by the numbers that they contain.
func checkNumbers(t *testing.T, a, b api.Interval, inA, inB []int) {
	t.Helper()
	var common []int
	areLess, areGreater := true, true
	for _, m := range inA {
		if slices.Contains(inB, m) {
			common = append(common, m)
		}
		for _, n := range inB {
			areLess = areLess && m < n
			areGreater = areGreater && m > n
		}
	}
	names := []string{shortSpan(a), shortSpan(b)}
	got, ok := interval.Meet(a, b)
	if ok != (len(common) > 0) {
		t.Errorf("Meet%v: %v", names, ok)
	}
	checkSpan(t, "Meet", got, least(common), names...)
	checkSpan(t, "Hull", interval.Hull(a, b), least(append(slices.Clone(inA), inB...)), names...)
	if got := interval.Within(a, b); got != (len(common) == len(inA)) {
		t.Errorf("Within%v = %v", names, got)
	}
	order := interval.Cmp(a, b)
	if (order == -1) != areLess || (order == 1) != areGreater || order < -1 || order > 1 {
		t.Errorf("Cmp%v = %d", names, order)
	}
	if got := interval.Same(a, b); got != slices.Equal(inA, inB) {
		t.Errorf("Same%v = %v", names, got)
	}
}

func TestSmallIntervals(t *testing.T) {
	var ends []api.Dyadic
	for n := int64(-4); n <= 4; n++ {
		ends = append(ends, dy(n, -1))
	}
	all := spans(ends)
	var contents [][]int
	for _, a := range all {
		contents = append(contents, quarters(a))
	}
	for i, a := range all {
		for j, b := range all {
			checkNumbers(t, a, b, contents[i], contents[j])
		}
		for n := -20; n <= 20; n++ {
			if got := interval.Has(a, rat(int64(n), 4)); got != slices.Contains(contents[i], n) {
				t.Errorf("Has(%s, %d / 4) = %v", shortSpan(a), n, got)
			}
		}
	}
}

// Two intervals that are apart, with one common end, that overlap, one within the other, and equal ones, in both orders.
func TestPairsOfExamples(t *testing.T) {
	for _, c := range []struct {
		name             string
		a, b, meet, hull api.Interval
		order            int
		ok, aIn, bIn     bool
	}{
		{"apart", whole(0, 1), whole(2, 3), api.Interval{}, whole(0, 3), -1, false, false, false}, {"apart around zero", whole(-3, -1), whole(1, 2), api.Interval{}, whole(-3, 2), -1, false, false, false}, {"apart below zero", whole(-7, -5), whole(-3, -2), api.Interval{}, whole(-7, -2), -1, false, false, false}, {"points apart", whole(1, 1), whole(2, 2), api.Interval{}, whole(1, 2), -1, false, false, false},
		{"a common end", whole(0, 2), whole(2, 3), whole(2, 2), whole(0, 3), 0, true, false, false}, {"zero as the common end", whole(-2, 0), whole(0, 3), whole(0, 0), whole(-2, 3), 0, true, false, false}, {"a common negative end", whole(-2, -1), whole(-1, 3), whole(-1, -1), whole(-2, 3), 0, true, false, false},
		{"overlapping", whole(0, 2), whole(1, 3), whole(1, 2), whole(0, 3), 0, true, false, false}, {"overlapping around zero", whole(-5, 1), whole(-1, 3), whole(-1, 1), whole(-5, 3), 0, true, false, false}, {"within", whole(1, 2), whole(0, 3), whole(1, 2), whole(0, 3), 0, true, true, false}, {"within from the same lower end", whole(0, 2), whole(0, 3), whole(0, 2), whole(0, 3), 0, true, true, false},
		{"within to the same upper end", whole(-1, 3), whole(-2, 3), whole(-1, 3), whole(-2, 3), 0, true, true, false}, {"a point within", whole(2, 2), whole(1, 3), whole(2, 2), whole(1, 3), 0, true, true, false}, {"a point as the lower end", whole(1, 1), whole(1, 3), whole(1, 1), whole(1, 3), 0, true, true, false}, {"a point as the upper end", whole(3, 3), whole(1, 3), whole(3, 3), whole(1, 3), 0, true, true, false},
		{"equal", whole(-1, 3), whole(-1, 3), whole(-1, 3), whole(-1, 3), 0, true, true, true}, {"equal points", whole(0, 0), whole(0, 0), whole(0, 0), whole(0, 0), 0, true, true, true},
		{"far apart", span(dy(-1, highest), dy(-1, lowest)), span(dy(1, lowest), dy(1, highest)), api.Interval{}, span(dy(-1, highest), dy(1, highest)), -1, false, false, false}, {"apart by the least number", span(dy(-1, highest), dy(1, lowest)), span(dy(2, lowest), dy(1, highest)), api.Interval{}, span(dy(-1, highest), dy(1, highest)), -1, false, false, false}, {"the least number within", span(dy(1, lowest), dy(1, lowest)), whole(0, 1), span(dy(1, lowest), dy(1, lowest)), whole(0, 1), 0, true, true, false},
	} {
		for _, swapped := range []bool{false, true} {
			if swapped {
				c.a, c.b, c.aIn, c.bIn, c.order = c.b, c.a, c.bIn, c.aIn, -c.order
			}
			if got, ok := interval.Meet(c.a, c.b); ok != c.ok || !identicalSpans(got, c.meet) {
				t.Errorf("%s: Meet: %s, %v", c.name, shortSpan(got), ok)
			}
			if got := interval.Hull(c.a, c.b); !identicalSpans(got, c.hull) {
				t.Errorf("%s: Hull: %s", c.name, shortSpan(got))
			}
			if got := interval.Cmp(c.a, c.b); got != c.order {
				t.Errorf("%s: Cmp: %d", c.name, got)
			}
			if interval.Within(c.a, c.b) != c.aIn || interval.Within(c.b, c.a) != c.bIn {
				t.Errorf("%s: Within is wrong", c.name)
			}
			if got := interval.Same(c.a, c.b); got != (c.aIn && c.bIn) {
				t.Errorf("%s: Same: %v", c.name, got)
			}
		}
	}
}

// Intervals that differ in one end alone, in its last digit, its sign or its exponent.
func TestSameButForOneEnd(t *testing.T) {
	lo, hi := wide(negative(ones(api.MaxBits)), highest), wide(ones(api.MaxBits), highest)
	for _, man := range append(mantissas(), ones(api.MaxBits)) {
		for _, exp := range []int{0, -70, 1000, lowest} {
			d := wide(man, exp)
			for _, other := range []api.Dyadic{opposite(d), wide(new(big.Int).Sub(man, big.NewInt(2)), exp), wide(new(big.Int).Sub(man, big.NewInt(1)), exp), wide(man, exp+1), {}} {
				for _, pair := range [][2]api.Interval{{span(lo, d), span(lo, other)}, {span(d, hi), span(other, hi)}} {
					if interval.Same(pair[0], pair[1]) || interval.Same(pair[1], pair[0]) {
						t.Errorf("%s and %s are the same", shortSpan(pair[0]), shortSpan(pair[1]))
					}
					if !interval.Same(pair[0], pair[0]) || !interval.Same(pair[1], pair[1]) {
						t.Errorf("%s or %s is not the same as itself", shortSpan(pair[0]), shortSpan(pair[1]))
					}
				}
			}
		}
	}
}

func TestSign(t *testing.T) {
	for _, a := range slices.Concat(spans(samples()), spans(extremes())) {
		lo, hi := scaled(a.Lo).Sign(), scaled(a.Hi).Sign()
		want := 0
		if lo == hi {
			want = lo
		}
		if got, ok := interval.Sign(a); got != want || ok != (lo == hi) {
			t.Errorf("Sign(%s) = %d, %v", shortSpan(a), got, ok)
		}
	}
}

func TestSignOfExamples(t *testing.T) {
	for _, c := range []struct {
		a    api.Interval
		sign int
		ok   bool
	}{
		{whole(0, 0), 0, true}, {whole(0, 1), 0, false}, {whole(-1, 0), 0, false}, {whole(-1, 1), 0, false}, {whole(-7, 2), 0, false}, {whole(1, 1), 1, true}, {whole(1, 9), 1, true}, {whole(-1, -1), -1, true}, {whole(-9, -1), -1, true}, {span(dy(1, lowest), dy(1, highest)), 1, true}, {span(dy(-1, highest), dy(-1, lowest)), -1, true},
		{span(dy(0, 0), dy(1, lowest)), 0, false}, {span(dy(-1, lowest), dy(0, 0)), 0, false}, {span(dy(-1, lowest), dy(1, lowest)), 0, false},
	} {
		if got, ok := interval.Sign(c.a); got != c.sign || ok != c.ok {
			t.Errorf("Sign(%s) = %d, %v", shortSpan(c.a), got, ok)
		}
	}
}

// Meet is within both arguments, both are within Hull, and the order of both changes nothing but the sign of Cmp.
func TestConsequencesOfPairs(t *testing.T) {
	for _, all := range [][]api.Interval{spans(every(9, samples())), spans(every(3, extremes()))} {
		for _, a := range all {
			for _, b := range all {
				hull := interval.Hull(a, b)
				meet, ok := interval.Meet(a, b)
				if ok && (!interval.Within(meet, a) || !interval.Within(meet, b)) || !interval.Within(a, hull) || !interval.Within(b, hull) {
					t.Errorf("%s, %s: Meet %s, Hull %s", shortSpan(a), shortSpan(b), shortSpan(meet), shortSpan(hull))
				}
				other, same := interval.Meet(b, a)
				if ok != same || !interval.Same(meet, other) || !interval.Same(hull, interval.Hull(b, a)) || interval.Cmp(a, b) != -interval.Cmp(b, a) || interval.Same(a, b) != interval.Same(b, a) {
					t.Errorf("%s, %s: the order matters", shortSpan(a), shortSpan(b))
				}
				if ok != (interval.Cmp(a, b) == 0) || interval.Same(a, b) != (interval.Within(a, b) && interval.Within(b, a)) {
					t.Errorf("%s, %s: Cmp, Meet, Within and Same do not agree", shortSpan(a), shortSpan(b))
				}
			}
		}
	}
}

// P10.3

// floor returns the greatest integer that is not greater than d * 2^p.
func floor(d api.Dyadic, p int) *big.Int {
	man := number(d.Man.Neg, d.Man.Mag)
	if exp := d.Exp + p; exp >= 0 {
		return man.Lsh(man, uint(exp))
	}
	return man.Rsh(man, uint(-d.Exp-p))
}

func ceil(d api.Dyadic, p int) *big.Int {
	return negative(floor(opposite(d), p))
}

// outward returns the interval that Out must return, and the error.
func outward(a api.Interval, p int) (api.Interval, api.Errno) {
	if p < coarsest || p > finest {
		return api.Interval{}, api.ErrArg
	}
	lo, isLow := of(floor(a.Lo, p), -p)
	hi, isHigh := of(ceil(a.Hi, p), -p)
	if !isLow || !isHigh {
		return api.Interval{}, api.ErrLarge
	}
	return span(lo, hi), api.OK
}

func checkOut(t *testing.T, a api.Interval, p int) {
	t.Helper()
	want, wantErr := outward(a, p)
	if got, err := interval.Out(a, p); err != wantErr || !identicalSpans(got, want) {
		t.Errorf("Out(%s, %d) = %s, error %d, want %s, error %d", shortSpan(a), p, shortSpan(got), err, shortSpan(want), wantErr)
	}
}

// precisions returns precisions around those at which an end lies on the grid, and at both ends of the range.
func precisions(d api.Dyadic) []int {
	all := []int{coarsest - 1, coarsest, -33, -1, 0, 1, 32, 1000, finest, finest + 1}
	digits := number(false, d.Man.Mag).BitLen()
	for _, border := range []int{-d.Exp, -d.Exp - digits} {
		all = append(all, border-1, border, border+1)
	}
	return all
}

// outside returns precisions that are not permitted.
func outside() []int {
	return []int{coarsest - 1, coarsest - 2, finest + 1, finest + 2, 2 * coarsest, 2 * finest, lowest, highest, 2*highest + 1, 2*lowest - 1, api.MaxShift, -api.MaxShift, 1 << 32, -1 << 32, 1<<32 + 5, math.MaxInt32, math.MinInt32, math.MaxInt, math.MaxInt - 1, math.MaxInt - highest, math.MinInt, math.MinInt + 1, math.MinInt + highest}
}

func TestOut(t *testing.T) {
	for i, a := range spans(every(2, samples())) {
		for j, p := range append(precisions(a.Lo), precisions(a.Hi)...) {
			if (i+j)%2 == 0 {
				checkOut(t, a, p)
			}
		}
	}
	for _, a := range spans(extremes()) {
		for _, p := range []int{coarsest, -1, 0, 1, finest} {
			checkOut(t, a, p)
		}
	}
	for lo := int64(-20); lo <= 20; lo++ {
		for hi := lo; hi <= 20; hi++ {
			for p := -6; p <= 4; p++ {
				checkOut(t, span(dy(lo, -3), dy(hi, -3)), p)
			}
		}
	}
}

func TestOutOfExamples(t *testing.T) {
	for _, c := range []struct {
		a    api.Interval
		p    int
		want api.Interval
	}{
		{whole(-3, 5), -2, whole(-4, 8)}, {whole(-3, 5), -1, whole(-4, 6)}, {whole(-3, 5), 0, whole(-3, 5)}, {whole(-3, 5), 7, whole(-3, 5)}, {whole(0, 0), -5, whole(0, 0)}, {whole(0, 0), 5, whole(0, 0)}, {whole(1, 1), -1, whole(0, 2)}, {whole(-1, -1), -1, whole(-2, 0)}, {whole(2, 2), -1, whole(2, 2)}, {whole(3, 4), -2, whole(0, 4)}, {whole(4, 5), -2, whole(4, 8)},
		{span(dy(-1, -2), dy(1, -2)), 1, span(dy(-1, -1), dy(1, -1))}, {span(dy(-1, -2), dy(1, -2)), 2, span(dy(-1, -2), dy(1, -2))}, {span(dy(-7, -2), dy(-5, -2)), 0, whole(-2, -1)}, {span(dy(5, -2), dy(7, -2)), 0, whole(1, 2)}, {span(dy(5, -3), dy(3, -2)), 2, span(dy(1, -1), dy(3, -2))}, {span(dy(1, -100), dy(1, 0)), 3, whole(0, 1)}, {span(dy(-1, 0), dy(-1, -100)), 3, whole(-1, 0)}, {span(dy(1, lowest), dy(1, lowest)), finest, span(dy(0, 0), dy(1, -finest))}, {span(dy(-1, lowest), dy(-1, lowest)), coarsest, span(dy(-1, -coarsest), dy(0, 0))},
	} {
		if got, err := interval.Out(c.a, c.p); err != api.OK || !identicalSpans(got, c.want) {
			t.Errorf("Out(%s, %d) = %s, error %d", shortSpan(c.a), c.p, shortSpan(got), err)
		}
	}
}

// A precision out of range is refused first: also of points on all grids, and where a result would be too large.
func TestOutOfPrecisionsOutside(t *testing.T) {
	tooLarge := wide(ones(api.MaxBits), -coarsest-1)
	for _, p := range outside() {
		for _, a := range []api.Interval{{}, whole(1, 1), whole(-3, 5), span(dy(-1, highest), dy(1, highest)), span(dy(1, lowest), dy(3, lowest)), span(dy(0, 0), tooLarge), span(opposite(tooLarge), tooLarge)} {
			checkOut(t, a, p)
			if got, err := interval.Out(a, p); err != api.ErrArg || !identicalSpans(got, api.Interval{}) {
				t.Errorf("Out(%s, %d) = %s, error %d", shortSpan(a), p, shortSpan(got), err)
			}
		}
	}
	for _, p := range []int{coarsest, finest} {
		if got, err := interval.Out(whole(0, 0), p); err != api.OK || !identicalSpans(got, api.Interval{}) {
			t.Errorf("Out([0, 0], %d) = %s, error %d", p, shortSpan(got), err)
		}
	}
}

// The floor of Lo, the ceiling of Hi or both are too large; where the argument has an end that is not, it must not be in the result.
func TestOutOfNumbersThatAreTooLarge(t *testing.T) {
	// Its ceiling on the coarsest grid has too great an exponent, but its floor does not.
	up := wide(ones(api.MaxBits), -coarsest-1)
	down := opposite(up)
	for _, c := range []struct {
		name string
		a    api.Interval
		p    int
		want api.Errno
	}{
		{"the ceiling", span(dy(1, 0), up), coarsest, api.ErrLarge}, {"the ceiling, with a negative floor", span(dy(-1, 0), up), coarsest, api.ErrLarge}, {"the floor", span(down, dy(-1, 0)), coarsest, api.ErrLarge}, {"the floor, with a positive ceiling", span(down, dy(1, 0)), coarsest, api.ErrLarge}, {"both", span(down, up), coarsest, api.ErrLarge}, {"the ceiling of a point", span(up, up), coarsest, api.ErrLarge}, {"the floor of a point", span(down, down), coarsest, api.ErrLarge},
		{"neither: the floor of the one", span(up, wide(ones(api.MaxBits), -coarsest)), coarsest, api.OK}, {"neither on a finer grid", span(down, up), coarsest + 1, api.OK}, {"neither at the finest", span(down, up), finest, api.OK}, {"the greatest", span(wide(negative(ones(api.MaxBits)), highest), wide(ones(api.MaxBits), highest)), coarsest, api.OK},
	} {
		if scaled(c.a.Lo).Cmp(scaled(c.a.Hi)) > 0 {
			c.a = span(c.a.Hi, c.a.Lo)
		}
		checkOut(t, c.a, c.p)
		if _, err := interval.Out(c.a, c.p); err != c.want {
			t.Errorf("%s: error %d", c.name, err)
		}
	}
}

// The argument is within the result, whose width is greater by at most two units; another time, nothing changes.
func TestConsequencesOfOut(t *testing.T) {
	var ends []api.Dyadic
	for _, d := range samples() {
		if d.Exp >= -1000 && d.Exp <= 1000 {
			ends = append(ends, d)
		}
	}
	for _, a := range spans(every(2, ends)) {
		for p := -140; p <= 140; p += 7 {
			out, err := interval.Out(a, p)
			if err != api.OK || !interval.Within(a, out) {
				t.Errorf("Out(%s, %d) = %s, error %d", shortSpan(a), p, shortSpan(out), err)
			}
			width, _ := interval.Width(a)
			outWidth, _ := interval.Width(out)
			growth := new(big.Int).Sub(scaled(outWidth), scaled(width))
			if growth.Sign() < 0 || growth.Cmp(power(highest-p+1)) > 0 {
				t.Errorf("Out(%s, %d) = %s is too wide", shortSpan(a), p, shortSpan(out))
			}
			again, err := interval.Out(out, p)
			if err != api.OK || !interval.Same(again, out) {
				t.Errorf("Out(%s, %d) = %s", shortSpan(out), p, shortSpan(again))
			}
		}
	}
}

// Among the intervals with ends on the grid, the result is the least one: its ends are less than a unit away.
func TestOutIsTheLeast(t *testing.T) {
	for _, a := range spans(every(3, extremes())) {
		for _, p := range []int{coarsest, -20, 0, 3, finest} {
			out, err := interval.Out(a, p)
			if err != api.OK {
				continue
			}
			unit := power(highest - p)
			below := new(big.Int).Sub(scaled(a.Lo), scaled(out.Lo))
			above := new(big.Int).Sub(scaled(out.Hi), scaled(a.Hi))
			for _, distance := range []*big.Int{below, above} {
				if distance.Sign() < 0 || distance.Cmp(unit) >= 0 {
					t.Errorf("Out(%s, %d) = %s", shortSpan(a), p, shortSpan(out))
				}
			}
		}
	}
}
