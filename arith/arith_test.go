package arith_test

import (
	"encoding/binary"
	"math"
	"math/big"
	"math/rand/v2"
	"slices"
	"testing"

	"exactreal/api"
	"exactreal/arith"
	"exactreal/interval"
)

const (
	top = math.MaxUint32
	// Small intervals end at multiples of 2^-finest that are less than 2^highest.
	finest  = 2 * api.MaxWork
	highest = api.MaxMagnitude
)

// number returns the number that a sign and a list stand for, whether they are valid or not.
func number(neg bool, a []uint32) *big.Int {
	var digits []byte
	for _, word := range slices.Backward(a) {
		digits = binary.BigEndian.AppendUint32(digits, word)
	}
	v := new(big.Int).SetBytes(digits)
	if neg {
		v.Neg(v)
	}
	return v
}

// elements returns the natural of the absolute value of v, made without the packages of the project.
func elements(v *big.Int) []uint32 {
	var a []uint32
	digits := v.FillBytes(make([]byte, (v.BitLen()+31)/32*4))
	for i := len(digits); i > 0; i -= 4 {
		a = append(a, binary.BigEndian.Uint32(digits[i-4:]))
	}
	return a
}

func toInt(v *big.Int) api.Int {
	return api.Int{Neg: v.Sign() < 0, Mag: elements(v)}
}

// wide returns the dyadic of man * 2^exp, made without the packages of the project, which must be in range.
func wide(man *big.Int, exp int) api.Dyadic {
	if man.Sign() == 0 {
		return api.Dyadic{}
	}
	zeros := int(man.TrailingZeroBits())
	return api.Dyadic{Man: toInt(new(big.Int).Rsh(man, uint(zeros))), Exp: exp + zeros}
}

func dy(man int64, exp int) api.Dyadic {
	return wide(big.NewInt(man), exp)
}

// span returns the interval from lo to hi, whether it is valid or not.
func span(lo, hi api.Dyadic) api.Interval {
	return api.Interval{Lo: lo, Hi: hi}
}

func point(d api.Dyadic) api.Interval {
	return span(d, d)
}

// whole returns the interval between two integers.
func whole(lo, hi int64) api.Interval {
	return span(dy(lo, 0), dy(hi, 0))
}

// halves returns the interval between the halves of two integers.
func halves(lo, hi int64) api.Interval {
	return span(dy(lo, -1), dy(hi, -1))
}

func toRat(x *big.Rat) api.Rat {
	return api.Rat{Num: toInt(x.Num()), Den: elements(x.Denom())}
}

func rat(num, den int64) api.Rat {
	return toRat(big.NewRat(num, den))
}

// frac returns num / den, for den other than zero.
func frac(num, den *big.Int) *big.Rat {
	return new(big.Rat).SetFrac(num, den)
}

// power returns 2^n.
func power(n int) *big.Int {
	return new(big.Int).Lsh(big.NewInt(1), uint(n))
}

// ones returns the number of n binary digits 1.
func ones(n int) *big.Int {
	return new(big.Int).Sub(power(n), big.NewInt(1))
}

// outer returns the number of n binary digits, at least two, of which only the first and the last one are 1.
func outer(n int) *big.Int {
	return new(big.Int).Add(power(n-1), big.NewInt(1))
}

func negative(v *big.Int) *big.Int {
	return new(big.Int).Neg(v)
}

func opposite(d api.Dyadic) api.Dyadic {
	return api.Dyadic{Man: toInt(negative(number(d.Man.Neg, d.Man.Mag))), Exp: d.Exp}
}

func mirrored(a api.Interval) api.Interval {
	return span(opposite(a.Hi), opposite(a.Lo))
}

// value returns the number that d stands for.
func value(d api.Dyadic) *big.Rat {
	man, scale := number(d.Man.Neg, d.Man.Mag), power(max(d.Exp, -d.Exp))
	if d.Exp < 0 {
		return frac(man, scale)
	}
	return new(big.Rat).SetInt(man.Mul(man, scale))
}

// identical reports whether two intervals are.
func identical(a, b api.Interval) bool {
	same := func(x, y api.Dyadic) bool {
		return x.Man.Neg == y.Man.Neg && slices.Equal(x.Man.Mag, y.Man.Mag) && x.Exp == y.Exp
	}
	return same(a.Lo, b.Lo) && same(a.Hi, b.Hi)
}

// short returns a number in a form in which it can be printed.
func short(v *big.Int) string {
	text := v.Text(16)
	if len(text) > 60 {
		return text[:30] + ".." + text[len(text)-30:]
	}
	return text
}

func shortSpan(a api.Interval) string {
	text := func(d api.Dyadic) string {
		return short(number(d.Man.Neg, d.Man.Mag)) + " * 2^" + big.NewInt(int64(d.Exp)).String()
	}
	return "[" + text(a.Lo) + ", " + text(a.Hi) + "]"
}

func shortRat(x api.Rat) string {
	return short(number(x.Num.Neg, x.Num.Mag)) + " / " + short(number(false, x.Den))
}

// operation is a function of the package, together with what it computes.
type operation struct {
	name  string
	call  func(a, b api.Interval, w int) (api.Interval, api.Errno)
	exact func(x, y *big.Rat) *big.Rat
}

func operations() []operation {
	return []operation{
		{"Neg", func(a, _ api.Interval, w int) (api.Interval, api.Errno) { return arith.Neg(a, w) }, func(x, _ *big.Rat) *big.Rat { return new(big.Rat).Neg(x) }},
		{"Add", arith.Add, func(x, y *big.Rat) *big.Rat { return new(big.Rat).Add(x, y) }},
		{"Sub", arith.Sub, func(x, y *big.Rat) *big.Rat { return new(big.Rat).Sub(x, y) }},
		{"Mul", arith.Mul, func(x, y *big.Rat) *big.Rat { return new(big.Rat).Mul(x, y) }},
		{"Div", arith.Div, func(x, y *big.Rat) *big.Rat { return new(big.Rat).Quo(x, y) }},
	}
}

func named(name string) operation {
	all := operations()
	return all[slices.IndexFunc(all, func(op operation) bool {
		return op.name == name
	})]
}

// down returns the greatest integer that is not greater than x * 2^w.
func down(x *big.Rat, w int) *big.Int {
	n := new(big.Int).Lsh(x.Num(), uint(w))
	return n.Div(n, x.Denom())
}

func up(x *big.Rat, w int) *big.Int {
	n := down(new(big.Rat).Neg(x), w)
	return n.Neg(n)
}

// enclosed returns the enclosure of the numbers from lo to hi at w, which is permitted, or the error.
func enclosed(lo, hi *big.Rat, w int) (api.Interval, api.Errno) {
	below, above := down(lo, w), up(hi, w)
	limit := power(highest + w)
	if below.CmpAbs(limit) >= 0 || above.CmpAbs(limit) >= 0 {
		return api.Interval{}, api.ErrLarge
	}
	return span(wide(below, -w), wide(above, -w)), api.OK
}

// image returns the least and the greatest of the results for two intervals: for all of the operations, these are results for ends.
func image(op operation, a, b api.Interval) (*big.Rat, *big.Rat) {
	var results []*big.Rat
	for _, x := range []*big.Rat{value(a.Lo), value(a.Hi)} {
		for _, y := range []*big.Rat{value(b.Lo), value(b.Hi)} {
			results = append(results, op.exact(x, y))
		}
	}
	return slices.MinFunc(results, (*big.Rat).Cmp), slices.MaxFunc(results, (*big.Rat).Cmp)
}

// divisorError returns the error of a division by b: OK, ErrZero or ErrUnknown.
func divisorError(b api.Interval) api.Errno {
	lo, hi := value(b.Lo).Sign(), value(b.Hi).Sign()
	switch {
	case lo == 0 && hi == 0:
		return api.ErrZero
	case lo <= 0 && hi >= 0:
		return api.ErrUnknown
	}
	return api.OK
}

// wanted returns what an operation must return at w, which is permitted.
func wanted(op operation, a, b api.Interval, w int) (api.Interval, api.Errno) {
	if op.name == "Div" && divisorError(b) != api.OK {
		return api.Interval{}, divisorError(b)
	}
	lo, hi := image(op, a, b)
	return enclosed(lo, hi, w)
}

// checkResult compares a result with the one that it must be.
func checkResult(t *testing.T, call string, w int, got api.Interval, err api.Errno, want api.Interval, wantErr api.Errno, args ...string) {
	t.Helper()
	if err != wantErr || !identical(got, want) {
		t.Errorf("%s%v at %d = %s, error %d, want %s, error %d", call, args, w, shortSpan(got), err, shortSpan(want), wantErr)
	}
}

func check(t *testing.T, op operation, a, b api.Interval, w int) {
	t.Helper()
	want, wantErr := wanted(op, a, b, w)
	got, err := op.call(a, b, w)
	checkResult(t, op.name, w, got, err, want, wantErr, shortSpan(a), shortSpan(b))
	if err == api.OK && !arith.Small(got) {
		t.Errorf("%s(%s, %s) at %d = %s, which is not small", op.name, shortSpan(a), shortSpan(b), w, shortSpan(got))
	}
}

func checkConst(t *testing.T, x *big.Rat, w int) {
	t.Helper()
	want, wantErr := enclosed(x, x, w)
	got, err := arith.Const(toRat(x), w)
	checkResult(t, "Const", w, got, err, want, wantErr, shortRat(toRat(x)))
}

// mantissas returns odd numbers of one to six elements, the same ones whenever it is called.
func mantissas() []*big.Int {
	var all []*big.Int
	for _, a := range [][]uint32{{1}, {3}, {5}, {1<<31 + 1}, {top}, {1, 1}, {top, 1 << 31}, {1, 0, 1}, {top, top, top}} {
		all = append(all, number(false, a))
	}
	random := rand.New(rand.NewPCG(11, 1))
	for n := 1; n <= 6; n++ {
		a := make([]uint32, n)
		for i := range a {
			a[i] = random.Uint32()
		}
		a[0] |= 1
		all = append(all, number(false, a))
	}
	return all
}

// ascending returns the dyadics in ascending order, each once.
func ascending(all []api.Dyadic) []api.Dyadic {
	slices.SortFunc(all, func(a, b api.Dyadic) int {
		return value(a).Cmp(value(b))
	})
	return slices.CompactFunc(all, func(a, b api.Dyadic) bool {
		return value(a).Cmp(value(b)) == 0
	})
}

// samples returns ends of small intervals with all mantissas, both signs and exponents of all kinds, and zero, in ascending order.
func samples() []api.Dyadic {
	all := []api.Dyadic{{}}
	for i, man := range mantissas() {
		for j, exp := range []int{0, -1, -3, 31, -32, -100, 700, -1000, -api.MaxWork, -api.MaxWork - 1} {
			if (i+j)%4 == 0 || i < 2 {
				all = append(all, wide(man, exp), wide(negative(man), exp))
			}
		}
	}
	return ascending(all)
}

// extremes returns the ends of small intervals that are farthest from zero and closest to it, and others, in ascending order.
func extremes() []api.Dyadic {
	all := []api.Dyadic{{}}
	for _, d := range []api.Dyadic{wide(ones(highest+finest), -finest), dy(1, highest-1), wide(outer(highest+finest), -finest), dy(1, 1024), dy(3, 0), dy(1, 0), dy(1, -1024), dy(3, -finest), dy(1, -finest)} {
		all = append(all, d, opposite(d))
	}
	return ascending(all)
}

// spans returns all intervals with ends among the given ones, which ascend, points among them.
func spans(ends []api.Dyadic) []api.Interval {
	var all []api.Interval
	for i, lo := range ends {
		for _, hi := range ends[i:] {
			all = append(all, span(lo, hi))
		}
	}
	return all
}

// every returns every n-th element of a list.
func every[T any](n int, list []T) []T {
	var all []T
	for i := n / 2; i < len(list); i += n {
		all = append(all, list[i])
	}
	return all
}

// quarters returns the dyadics from -n / 4 to n / 4.
func quarters(n int64) []api.Dyadic {
	var all []api.Dyadic
	for i := -n; i <= n; i++ {
		all = append(all, dy(i, -2))
	}
	return all
}

// outside returns working precisions that are not permitted.
func outside() []int {
	return []int{-1, -2, api.MaxWork + 1, api.MaxWork + 2, -api.MaxWork, finest, finest + 1, -highest, -highest - 1, api.MaxExponent, -api.MaxExponent, api.MaxShift, 1 << 32, -1 << 32, 1<<32 + 5, math.MaxInt32, math.MinInt32, math.MaxInt, math.MaxInt - 1, math.MinInt, math.MinInt + 1}
}

// precisions returns working precisions, the least and the greatest one among them.
func precisions() []int {
	return []int{0, 1, 2, 33, 500, 1000, api.MaxWork - 1, api.MaxWork}
}

// P11.1

// Both ends take every value, so that some of the intervals are in the wrong order.
func TestSmall(t *testing.T) {
	limit := power(highest + finest)
	one := big.NewInt(1)
	fits := []api.Dyadic{
		{}, dy(1, 0), dy(-3, 5), dy(1, highest-1), wide(ones(highest), 0), wide(ones(highest+finest), -finest), wide(outer(highest+finest), -finest), wide(outer(highest), 0), dy(1, -finest), dy(3, -finest), dy(-5, -finest+1), wide(outer(finest+1), -finest), wide(ones(100), -finest),
	}
	fitsNot := []api.Dyadic{
		dy(1, highest), dy(3, highest-1), dy(1, highest+1), wide(new(big.Int).Add(limit, one), -finest), wide(outer(highest+1), 0), dy(1, api.MaxExponent), wide(ones(api.MaxBits), api.MaxExponent), wide(ones(api.MaxBits), highest-api.MaxBits), wide(ones(highest+1), 0),
		dy(1, -finest-1), dy(3, -finest-1), dy(1, -api.MaxExponent), wide(outer(finest+2), -finest-1), wide(ones(finest+1), -finest-1), wide(ones(highest+finest+1), -finest-1), wide(ones(api.MaxBits), -finest-1),
	}
	all := slices.Concat(fits, fitsNot)
	for i, lo := range all {
		for j, hi := range all {
			small := i < len(fits) && j < len(fits)
			for _, a := range []api.Interval{span(lo, hi), span(opposite(lo), hi), span(lo, opposite(hi)), span(opposite(lo), opposite(hi))} {
				want := small && value(a.Lo).Cmp(value(a.Hi)) <= 0
				if got := arith.Small(a); got != want {
					t.Errorf("Small(%s) = %v", shortSpan(a), got)
				}
			}
		}
	}
}

func TestSmallExamples(t *testing.T) {
	for _, c := range []struct {
		a    api.Interval
		want bool
	}{
		{api.Interval{}, true}, {whole(-1, 1), true}, {whole(1, 0), false}, {whole(0, -1), false}, {span(dy(0, 0), dy(1, highest-1)), true}, {span(dy(0, 0), dy(1, highest)), false}, {span(dy(-1, highest), dy(0, 0)), false}, {span(dy(-1, highest-1), dy(0, 0)), true},
		{span(dy(-1, highest), dy(1, highest)), false}, {point(dy(1, highest)), false}, {point(dy(-1, highest)), false}, {span(dy(1, -finest), dy(1, 0)), true}, {span(dy(1, -finest-1), dy(1, 0)), false}, {span(dy(-1, 0), dy(-1, -finest)), true}, {span(dy(-1, 0), dy(-1, -finest-1)), false}, {span(dy(-1, -finest-1), dy(1, -finest-1)), false},
	} {
		if got := arith.Small(c.a); got != c.want {
			t.Errorf("Small(%s) = %v", shortSpan(c.a), got)
		}
	}
}

// invalid returns dyadics that are not valid, each in one respect, though most of them stand for ends of small intervals.
func invalid() []api.Dyadic {
	all := []api.Dyadic{{Exp: 1}, {Exp: -1}, {Exp: math.MinInt}, {Exp: math.MaxInt}, {Man: api.Int{Neg: true}}, {Man: api.Int{Mag: []uint32{0}}}, {Man: api.Int{Mag: []uint32{1, 0}}}, {Man: api.Int{Neg: true, Mag: []uint32{3, 7, 0}}, Exp: -2}, {Man: api.Int{Mag: []uint32{0, 1}}}}
	for _, even := range []uint32{2, 4, 6, top - 1} {
		all = append(all, api.Dyadic{Man: api.Int{Mag: []uint32{even}}}, api.Dyadic{Man: api.Int{Neg: true, Mag: []uint32{even, 1}}, Exp: -3})
	}
	for _, exp := range []int{api.MaxExponent + 1, -api.MaxExponent - 1, math.MaxInt, math.MaxInt - 1, math.MinInt, math.MinInt + 1} {
		all = append(all, api.Dyadic{Man: api.Int{Mag: []uint32{1}}, Exp: exp}, api.Dyadic{Man: api.Int{Neg: true, Mag: []uint32{5, 1}}, Exp: exp})
	}
	return append(all, api.Dyadic{Man: api.Int{Mag: elements(ones(api.MaxBits + 1))}, Exp: -api.MaxBits})
}

func TestSmallOfIntervalsThatAreNotValid(t *testing.T) {
	for _, d := range invalid() {
		for _, a := range []api.Interval{point(d), span(d, dy(1, highest-1)), span(dy(-1, highest-1), d), span(d, api.Dyadic{}), span(api.Dyadic{}, d)} {
			if arith.Small(a) {
				t.Errorf("%s is small", shortSpan(a))
			}
		}
	}
	for _, a := range spans(samples()) {
		if !identical(a, point(a.Lo)) && arith.Small(span(a.Hi, a.Lo)) {
			t.Errorf("%s is small", shortSpan(span(a.Hi, a.Lo)))
		}
		if !arith.Small(a) {
			t.Errorf("%s is not small", shortSpan(a))
		}
	}
}

// A precision that is not permitted is refused ahead of any other error: of a divisor that contains zero, and of a result that is too large.
func TestRefusedPrecisions(t *testing.T) {
	most := wide(ones(highest+finest), -finest)
	divisors := []api.Interval{whole(0, 0), whole(0, 1), whole(-1, 0), whole(-1, 1), whole(1, 2), whole(-2, -1), point(dy(1, -finest)), span(dy(-1, highest-1), most)}
	for _, w := range outside() {
		for _, a := range []api.Interval{{}, whole(1, 1), whole(-3, 5), point(most), span(opposite(most), most)} {
			for _, b := range divisors {
				for _, op := range operations() {
					got, err := op.call(a, b, w)
					checkResult(t, op.name, w, got, err, api.Interval{}, api.ErrArg, shortSpan(a), shortSpan(b))
				}
			}
		}
		for _, x := range []*big.Rat{new(big.Rat), big.NewRat(-7, 3), new(big.Rat).SetInt(power(highest)), new(big.Rat).SetInt(power(3 * api.MaxExponent))} {
			got, err := arith.Const(toRat(x), w)
			checkResult(t, "Const", w, got, err, api.Interval{}, api.ErrArg, shortRat(toRat(x)))
		}
	}
}

// At all permitted precisions, the results lie on the grid of that one.
func TestAllPrecisions(t *testing.T) {
	third := big.NewRat(1, 3)
	for w := 0; w <= api.MaxWork; w++ {
		if w > 100 && w%61 != 0 && w < api.MaxWork-5 {
			continue
		}
		checkConst(t, third, w)
		fine := span(wide(negative(ones(w+1)), -w-1), wide(outer(w+2), -w-1))
		for _, op := range operations() {
			check(t, op, fine, whole(3, 7), w)
		}
	}
}

// P11.2

func TestConstOfExamples(t *testing.T) {
	for _, c := range []struct {
		num, den int64
		w        int
		want     api.Interval
	}{
		{1, 3, 2, span(dy(1, -2), dy(1, -1))}, {-1, 3, 2, span(dy(-1, -1), dy(-1, -2))}, {1, 3, 0, whole(0, 1)}, {-1, 3, 0, whole(-1, 0)}, {1, 3, 1, halves(0, 1)}, {0, 1, 0, whole(0, 0)}, {0, 1, api.MaxWork, whole(0, 0)}, {7, 1, 0, whole(7, 7)}, {-7, 1, api.MaxWork, whole(-7, -7)},
		{3, 2, 0, whole(1, 2)}, {3, 2, 1, halves(3, 3)}, {-3, 2, 0, whole(-2, -1)}, {-3, 2, 1, halves(-3, -3)}, {5, 8, 2, span(dy(1, -1), dy(3, -2))}, {5, 8, 3, point(dy(5, -3))}, {5, 8, 4, point(dy(5, -3))}, {22, 7, 1, halves(6, 7)}, {-22, 7, 1, halves(-7, -6)},
	} {
		got, err := arith.Const(rat(c.num, c.den), c.w)
		checkResult(t, "Const", c.w, got, err, c.want, api.OK, shortRat(rat(c.num, c.den)))
	}
}

func TestConst(t *testing.T) {
	for num := int64(-30); num <= 30; num++ {
		for den := int64(1); den <= 16; den++ {
			for w := 0; w <= 5; w++ {
				checkConst(t, big.NewRat(num, den), w)
			}
		}
	}
	dens := append(mantissas(), power(1), power(31), power(100), outer(3000), power(api.MaxWork), power(api.MaxWork+1), ones(20000))
	for i, num := range append(mantissas(), power(5), power(64), ones(3000), ones(20000)) {
		for j, den := range dens {
			for k, w := range precisions() {
				if (i+j+k)%2 == 0 {
					checkConst(t, frac(num, den), w)
					checkConst(t, frac(negative(num), den), w)
				}
			}
		}
	}
}

// A multiple of 2^-w is a point; its neighbours lie between two multiples.
func TestConstBesideTheGrid(t *testing.T) {
	for _, n := range append(mantissas(), big.NewInt(0)) {
		for _, den := range []*big.Int{big.NewInt(3), ones(32), outer(100), power(1), power(5000)} {
			multiple := new(big.Int).Mul(n, den)
			for _, w := range precisions() {
				for d := int64(-1); d <= 1; d++ {
					beside := new(big.Int).Add(multiple, big.NewInt(d))
					x := frac(beside, new(big.Int).Lsh(den, uint(w)))
					checkConst(t, x, w)
					checkConst(t, x.Neg(x), w)
				}
			}
		}
	}
}

func TestOperationsOfExamples(t *testing.T) {
	for _, c := range []struct {
		name string
		a, b api.Interval
		w    int
		want api.Interval
	}{
		{"Neg", whole(-2, 5), api.Interval{}, 0, whole(-5, 2)}, {"Neg", whole(3, 3), api.Interval{}, 7, whole(-3, -3)}, {"Neg", whole(0, 4), api.Interval{}, 0, whole(-4, 0)}, {"Neg", whole(-4, 0), api.Interval{}, 0, whole(0, 4)}, {"Neg", whole(0, 0), api.Interval{}, 0, whole(0, 0)}, {"Neg", span(dy(1, -3), dy(1, 0)), api.Interval{}, 1, whole(-1, 0)}, {"Neg", span(dy(-5, -2), dy(-3, -2)), api.Interval{}, 1, halves(1, 3)}, {"Neg", span(dy(-5, -2), dy(-3, -2)), api.Interval{}, 2, span(dy(3, -2), dy(5, -2))},
		{"Add", whole(1, 2), whole(10, 20), 0, whole(11, 22)}, {"Add", whole(-1, 2), whole(-10, 20), 3, whole(-11, 22)}, {"Add", whole(-3, -2), whole(-5, 1), 0, whole(-8, -1)}, {"Add", whole(0, 0), whole(0, 0), 0, whole(0, 0)}, {"Add", halves(1, 3), halves(1, 3), 0, whole(1, 3)}, {"Add", halves(1, 3), whole(1, 1), 0, whole(1, 3)}, {"Add", halves(-3, -1), whole(1, 1), 0, whole(-1, 1)}, {"Add", span(dy(1, -3), dy(3, -3)), whole(1, 1), 1, halves(2, 3)}, {"Add", span(dy(1, -3), dy(3, -3)), whole(1, 1), 3, span(dy(9, -3), dy(11, -3))},
		{"Sub", whole(0, 1), whole(0, 1), 4, whole(-1, 1)}, {"Sub", whole(5, 7), whole(1, 3), 0, whole(2, 6)}, {"Sub", whole(5, 7), whole(-3, -1), 0, whole(6, 10)}, {"Sub", whole(-7, -5), whole(1, 3), 0, whole(-10, -6)}, {"Sub", whole(5, 5), whole(5, 5), 9, whole(0, 0)}, {"Sub", halves(1, 1), whole(2, 2), 0, whole(-2, -1)}, {"Sub", span(dy(1, -3), dy(3, -3)), whole(0, 0), 2, span(dy(0, 0), dy(1, -1))},
		{"Mul", whole(-1, 2), whole(3, 4), 0, whole(-4, 8)}, {"Mul", whole(2, 3), whole(5, 7), 0, whole(10, 21)}, {"Mul", whole(0, 0), whole(-5, 7), 0, whole(0, 0)}, {"Mul", whole(6, 6), whole(-7, -7), 12, whole(-42, -42)}, {"Mul", halves(1, 3), halves(1, 3), 0, whole(0, 3)}, {"Mul", halves(1, 3), halves(1, 3), 1, halves(0, 5)}, {"Mul", halves(1, 3), halves(1, 3), 2, span(dy(1, -2), dy(9, -2))}, {"Mul", halves(-1, 3), halves(1, 3), 1, halves(-2, 5)},
		{"Div", whole(1, 2), whole(-3, -1), 1, halves(-4, 0)}, {"Div", whole(-1, 1), whole(3, 3), 2, halves(-1, 1)}, {"Div", whole(6, 6), whole(3, 3), 0, whole(2, 2)}, {"Div", whole(6, 6), whole(-3, -3), api.MaxWork, whole(-2, -2)}, {"Div", whole(1, 1), whole(3, 3), 2, span(dy(1, -2), dy(1, -1))}, {"Div", whole(0, 0), whole(-7, -5), 5, whole(0, 0)}, {"Div", whole(12, 24), whole(2, 3), 0, whole(4, 12)}, {"Div", whole(12, 24), whole(-3, -2), 0, whole(-12, -4)}, {"Div", whole(-12, 24), whole(2, 3), 0, whole(-6, 12)}, {"Div", whole(-12, 24), whole(-3, -2), 0, whole(-12, 6)},
		{"Div", whole(-24, -12), whole(2, 3), 0, whole(-12, -4)}, {"Div", whole(-24, -12), whole(-3, -2), 0, whole(4, 12)}, {"Div", whole(0, 6), whole(2, 3), 0, whole(0, 3)}, {"Div", whole(-6, 0), whole(2, 3), 0, whole(-3, 0)}, {"Div", halves(1, 1), halves(3, 3), 3, span(dy(1, -2), dy(3, -3))}, {"Div", whole(1, 1), halves(1, 1), 0, whole(2, 2)},
	} {
		got, err := named(c.name).call(c.a, c.b, c.w)
		checkResult(t, c.name, c.w, got, err, c.want, api.OK, shortSpan(c.a), shortSpan(c.b))
	}
}

// Products for each way in which the signs of four ends can lie, with ends that are zero, too; each one in both orders.
func TestSignsOfProducts(t *testing.T) {
	for _, c := range []struct {
		a, b, want api.Interval
	}{
		{whole(2, 3), whole(5, 7), whole(10, 21)}, {whole(2, 3), whole(-7, -5), whole(-21, -10)}, {whole(2, 3), whole(-5, 7), whole(-15, 21)}, {whole(-3, -2), whole(-7, -5), whole(10, 21)}, {whole(-3, -2), whole(-5, 7), whole(-21, 15)},
		{whole(-2, 3), whole(-5, 7), whole(-15, 21)}, {whole(-3, 2), whole(-7, 5), whole(-15, 21)}, {whole(-2, 3), whole(-7, 5), whole(-21, 15)}, {whole(-3, 2), whole(-5, 7), whole(-21, 15)}, {whole(-5, 1), whole(-7, 1), whole(-7, 35)}, {whole(-1, 5), whole(-7, 1), whole(-35, 7)}, {whole(-5, 1), whole(-2, 10), whole(-50, 10)}, {whole(-1, 5), whole(-2, 10), whole(-10, 50)},
		{whole(0, 3), whole(5, 7), whole(0, 21)}, {whole(0, 3), whole(-7, -5), whole(-21, 0)}, {whole(0, 3), whole(-5, 7), whole(-15, 21)}, {whole(-3, 0), whole(5, 7), whole(-21, 0)}, {whole(-3, 0), whole(-7, -5), whole(0, 21)}, {whole(-3, 0), whole(-5, 7), whole(-21, 15)}, {whole(0, 3), whole(0, 7), whole(0, 21)}, {whole(0, 3), whole(-7, 0), whole(-21, 0)}, {whole(-3, 0), whole(-7, 0), whole(0, 21)},
		{whole(0, 0), whole(5, 7), whole(0, 0)}, {whole(0, 0), whole(-7, -5), whole(0, 0)}, {whole(0, 0), whole(-5, 7), whole(0, 0)}, {whole(0, 0), whole(0, 0), whole(0, 0)}, {whole(3, 3), whole(-5, 7), whole(-15, 21)}, {whole(-3, -3), whole(-5, 7), whole(-21, 15)}, {whole(-3, -3), whole(7, 7), whole(-21, -21)},
	} {
		for _, w := range precisions() {
			got, err := arith.Mul(c.a, c.b, w)
			checkResult(t, "Mul", w, got, err, c.want, api.OK, shortSpan(c.a), shortSpan(c.b))
			got, err = arith.Mul(c.b, c.a, w)
			checkResult(t, "Mul", w, got, err, c.want, api.OK, shortSpan(c.b), shortSpan(c.a))
		}
	}
}

func TestOperationsOnSmallNumbers(t *testing.T) {
	all := spans(every(2, quarters(9)))
	for _, op := range operations() {
		for _, a := range all {
			for _, b := range all {
				for _, w := range []int{0, 1, 4} {
					check(t, op, a, b, w)
				}
			}
		}
	}
}

func TestOperations(t *testing.T) {
	all := spans(samples())
	n := len(all)
	for _, op := range operations() {
		for i := range 6 * n {
			// Steps without a common divisor reach pairs of all kinds.
			a, b := all[i%n], all[(i*89+i/n)%n]
			if i%7 == 0 {
				b = point(b.Lo)
			}
			check(t, op, a, b, precisions()[i%len(precisions())])
		}
	}
}

func TestOperationsOnPoints(t *testing.T) {
	for _, op := range operations() {
		for i, x := range every(3, samples()) {
			for j, y := range every(3, samples()) {
				check(t, op, point(x), point(y), precisions()[(i+j)%len(precisions())])
			}
		}
	}
}

func TestOperationsOnExtremes(t *testing.T) {
	all := spans(extremes())
	n := len(all)
	for _, op := range operations() {
		for i := range n {
			for _, step := range []int{0, 1, 31, 77} {
				check(t, op, all[i], all[(i+step)%n], precisions()[(i+step)%len(precisions())])
			}
		}
	}
}

// Images with ends on the grid are the results themselves, at this precision and at all finer ones.
func TestImagesOnTheGrid(t *testing.T) {
	for _, exp := range []int{0, -1, -100, -api.MaxWork / 2} {
		all := spans([]api.Dyadic{dy(-7, exp), dy(-4, exp), dy(0, 0), dy(3, exp), wide(ones(40), exp)})
		for _, op := range operations() {
			for _, a := range all {
				for _, b := range all {
					if op.name == "Div" {
						// Divisors that are powers of two have quotients on the grid.
						b = span(dy(-2, exp), dy(-1, exp))
					}
					lo, hi := image(op, a, b)
					for _, w := range []int{-2*exp + 1, api.MaxWork} {
						got, err := op.call(a, b, min(w, api.MaxWork))
						if err != api.OK || value(got.Lo).Cmp(lo) != 0 || value(got.Hi).Cmp(hi) != 0 {
							t.Errorf("%s(%s, %s) at %d = %s, error %d", op.name, shortSpan(a), shortSpan(b), w, shortSpan(got), err)
						}
					}
				}
			}
		}
	}
}

// P11.3

func TestDivisorsWithZero(t *testing.T) {
	least, most := dy(1, -finest), wide(ones(highest+finest), -finest)
	dividends := []api.Interval{whole(1, 1), whole(0, 0), whole(-3, 5), whole(-2, -1), span(opposite(most), most)}
	for _, a := range dividends {
		for _, w := range precisions() {
			got, err := arith.Div(a, whole(0, 0), w)
			checkResult(t, "Div", w, got, err, api.Interval{}, api.ErrZero, shortSpan(a), "0")
			for _, b := range []api.Interval{whole(0, 1), whole(-1, 0), whole(-1, 1), whole(-7, 2), span(dy(0, 0), least), span(opposite(least), dy(0, 0)), span(opposite(least), least), span(dy(0, 0), most), span(opposite(most), most), span(opposite(most), least)} {
				got, err := arith.Div(a, b, w)
				checkResult(t, "Div", w, got, err, api.Interval{}, api.ErrUnknown, shortSpan(a), shortSpan(b))
			}
		}
	}
}

// Divisors next to zero, on both sides: the quotients are small or too large, but there is no other error.
func TestDivisorsBesideZero(t *testing.T) {
	for _, exp := range []int{-finest, -api.MaxWork, -highest, -highest + 1, -100, -1} {
		for _, b := range []api.Interval{point(dy(1, exp)), point(dy(3, exp)), span(dy(1, exp), dy(1, 0)), span(dy(1, exp), dy(1, highest-1))} {
			for _, a := range []api.Interval{whole(0, 0), whole(1, 1), whole(-1, 1), point(dy(1, -finest)), point(dy(1, exp)), point(dy(7, min(exp+1, 0))), span(dy(-1, -finest), dy(1, -5000))} {
				for _, w := range precisions() {
					check(t, named("Div"), a, b, w)
					check(t, named("Div"), a, mirrored(b), w)
				}
			}
		}
	}
}

// P11.1: ErrLarge

// Numbers just below 2^MaxMagnitude, which are small where they lie on the grid of w, and numbers that round to it.
func TestConstAtTheLimit(t *testing.T) {
	for _, w := range precisions() {
		unit := frac(big.NewInt(1), power(w))
		limit := new(big.Rat).SetInt(power(highest))
		for _, c := range []struct {
			name string
			x    *big.Rat
			want api.Errno
		}{
			{"the limit", limit, api.ErrLarge}, {"one unit less", new(big.Rat).Sub(limit, unit), api.OK}, {"half a unit less", new(big.Rat).Sub(limit, new(big.Rat).Mul(unit, big.NewRat(1, 2))), api.ErrLarge}, {"a third of a unit less", new(big.Rat).Sub(limit, new(big.Rat).Mul(unit, big.NewRat(1, 3))), api.ErrLarge}, {"just more than a unit less", new(big.Rat).Sub(limit, new(big.Rat).Mul(unit, big.NewRat(1000001, 1000000))), api.OK},
			{"a unit more", new(big.Rat).Add(limit, unit), api.ErrLarge}, {"far more", new(big.Rat).SetInt(power(2 * highest)), api.ErrLarge}, {"more than any dyadic", new(big.Rat).SetInt(ones(3 * api.MaxExponent)), api.ErrLarge}, {"the half of it", new(big.Rat).SetInt(power(highest - 1)), api.OK}, {"long parts", frac(ones(70000), outer(68000)), api.OK},
		} {
			checkConst(t, c.x, w)
			if _, err := arith.Const(toRat(c.x), w); err != c.want {
				t.Errorf("%s at %d: error %d", c.name, w, err)
			}
			x := new(big.Rat).Neg(c.x)
			checkConst(t, x, w)
			if _, err := arith.Const(toRat(x), w); err != c.want {
				t.Errorf("the opposite of %s at %d: error %d", c.name, w, err)
			}
		}
	}
}

func TestOperationsAtTheLimit(t *testing.T) {
	half, most, integer := dy(1, highest-1), wide(ones(highest+finest), -finest), wide(ones(highest), 0)
	root, below := dy(1, highest/2), wide(ones(highest/2), 0)
	tiny, zero := dy(1, -finest), dy(0, 0)
	for _, c := range []struct {
		op, name string
		a, b     api.Interval
		w        int
		want     api.Errno
	}{
		{"Neg", "an end that is rounded up", span(opposite(most), zero), point(zero), 0, api.ErrLarge}, {"Neg", "an end that is rounded down", span(zero, most), point(zero), 0, api.ErrLarge}, {"Neg", "rounded at the finest", point(most), point(zero), api.MaxWork, api.ErrLarge}, {"Neg", "an end on the grid", span(opposite(integer), integer), point(zero), 0, api.OK}, {"Neg", "on the finest grid", point(wide(ones(highest+api.MaxWork), -api.MaxWork)), point(zero), api.MaxWork, api.OK}, {"Neg", "one place off the finest grid", point(wide(ones(highest+api.MaxWork+1), -api.MaxWork-1)), point(zero), api.MaxWork, api.ErrLarge},
		{"Add", "the limit", point(half), point(half), 0, api.ErrLarge}, {"Add", "the limit as the upper end", span(zero, half), span(zero, half), 1, api.ErrLarge}, {"Add", "the limit as the lower end", span(opposite(half), zero), span(opposite(half), zero), 1, api.ErrLarge}, {"Add", "one less", point(half), point(wide(ones(highest-1), 0)), 0, api.OK}, {"Add", "a little less", point(half), point(wide(ones(highest-1+finest), -finest)), 0, api.ErrLarge}, {"Add", "the greatest twice", span(opposite(most), most), span(opposite(most), most), api.MaxWork, api.ErrLarge}, {"Add", "both cancelled", point(most), point(opposite(most)), 0, api.OK}, {"Add", "rounded down", point(opposite(integer)), point(opposite(tiny)), 0, api.ErrLarge}, {"Add", "rounded inward on the one side", point(integer), point(opposite(tiny)), 0, api.OK},
		{"Sub", "the limit", point(half), point(opposite(half)), 0, api.ErrLarge}, {"Sub", "the limit as the lower end", span(opposite(half), zero), span(zero, half), 0, api.ErrLarge}, {"Sub", "one less", point(half), point(wide(negative(ones(highest-1)), 0)), 0, api.OK}, {"Sub", "the greatest from itself", point(most), point(most), 0, api.OK}, {"Sub", "the greatest from its opposite", point(opposite(most)), point(most), api.MaxWork, api.ErrLarge}, {"Sub", "rounded up", point(integer), point(opposite(tiny)), 0, api.ErrLarge},
		{"Mul", "the limit", point(root), point(root), 0, api.ErrLarge}, {"Mul", "the limit, negative", point(root), point(opposite(root)), 0, api.ErrLarge}, {"Mul", "less", point(root), point(below), 0, api.OK}, {"Mul", "less, negative", point(opposite(root)), point(below), 0, api.OK}, {"Mul", "the upper end only", span(opposite(below), root), span(zero, root), 0, api.ErrLarge}, {"Mul", "the lower end only", span(opposite(root), below), span(zero, root), 0, api.ErrLarge}, {"Mul", "neither", span(opposite(below), below), span(opposite(root), root), api.MaxWork, api.OK}, {"Mul", "the greatest twice", point(most), point(most), api.MaxWork, api.ErrLarge}, {"Mul", "the greatest and one", point(most), point(dy(1, 0)), api.MaxWork, api.ErrLarge}, {"Mul", "the greatest and a half", point(most), point(dy(1, -1)), api.MaxWork, api.OK}, {"Mul", "the greatest and the least", point(most), point(tiny), api.MaxWork, api.OK}, {"Mul", "the least twice", point(tiny), point(tiny), api.MaxWork, api.OK},
		{"Div", "the limit", point(half), point(dy(1, -1)), 0, api.ErrLarge}, {"Div", "the limit, negative", point(half), point(dy(-1, -1)), 0, api.ErrLarge}, {"Div", "less", point(wide(ones(highest-1), 0)), point(dy(1, -1)), 0, api.OK}, {"Div", "just less, rounded", point(half), point(wide(outer(finest), -finest)), api.MaxWork, api.ErrLarge}, {"Div", "a third less", point(half), point(dy(3, -2)), api.MaxWork, api.OK}, {"Div", "the upper end only", span(dy(-1, 0), half), span(dy(1, -1), dy(1, 0)), 0, api.ErrLarge}, {"Div", "the lower end only", span(opposite(half), dy(1, 0)), span(dy(1, -1), dy(1, 0)), 0, api.ErrLarge}, {"Div", "neither", span(opposite(half), half), whole(1, 2), 0, api.OK},
		{"Div", "the greatest by the least", point(most), point(tiny), 0, api.ErrLarge}, {"Div", "the least by the greatest", point(tiny), point(most), api.MaxWork, api.OK}, {"Div", "the greatest by itself", point(most), point(most), api.MaxWork, api.OK}, {"Div", "the least by itself", point(tiny), point(opposite(tiny)), api.MaxWork, api.OK}, {"Div", "zero by the least", point(zero), point(tiny), api.MaxWork, api.OK}, {"Div", "one by a wide divisor", point(dy(1, 0)), span(dy(1, -highest), dy(1, 0)), 0, api.ErrLarge}, {"Div", "one by a divisor that is just narrower", point(dy(1, 0)), span(dy(1, -highest+1), dy(1, 0)), 0, api.OK},
	} {
		op := named(c.op)
		check(t, op, c.a, c.b, c.w)
		check(t, op, mirrored(c.a), mirrored(c.b), c.w)
		if _, err := op.call(c.a, c.b, c.w); err != c.want {
			t.Errorf("%s of %s at %d: error %d", c.op, c.name, c.w, err)
		}
	}
}

// Consequences

// within returns numbers of an interval: both ends, the middle, thirds, and one just beside each end.
func within(a api.Interval) []*big.Rat {
	lo, hi := value(a.Lo), value(a.Hi)
	width := new(big.Rat).Sub(hi, lo)
	all := []*big.Rat{lo, hi}
	for _, part := range []*big.Rat{big.NewRat(1, 2), big.NewRat(1, 3), big.NewRat(2, 3), big.NewRat(1, 1<<40), big.NewRat(1<<40-1, 1<<40)} {
		x := new(big.Rat).Mul(width, part)
		all = append(all, x.Add(x, lo))
	}
	if lo.Sign() < 0 && hi.Sign() > 0 {
		all = append(all, new(big.Rat))
	}
	return all
}

// checkNumbers checks that a result contains the results for numbers of its arguments, the least and the greatest of which are less than 2^-w away from its ends.
func checkNumbers(t *testing.T, op operation, a, b api.Interval, w int) {
	t.Helper()
	result, err := op.call(a, b, w)
	if err != api.OK {
		t.Errorf("%s(%s, %s) at %d: error %d", op.name, shortSpan(a), shortSpan(b), w, err)
		return
	}
	var results []*big.Rat
	for _, x := range within(a) {
		for _, y := range within(b) {
			results = append(results, op.exact(x, y))
		}
	}
	unit := frac(big.NewInt(1), power(w))
	below := new(big.Rat).Sub(slices.MinFunc(results, (*big.Rat).Cmp), value(result.Lo))
	above := new(big.Rat).Sub(value(result.Hi), slices.MaxFunc(results, (*big.Rat).Cmp))
	for _, distance := range []*big.Rat{below, above} {
		if distance.Sign() < 0 || distance.Cmp(unit) >= 0 {
			t.Errorf("%s(%s, %s) at %d = %s", op.name, shortSpan(a), shortSpan(b), w, shortSpan(result))
		}
	}
}

func TestResultsContainNumbers(t *testing.T) {
	var ends []api.Dyadic
	for _, d := range samples() {
		if d.Exp >= -200 && d.Exp <= 40 {
			ends = append(ends, d)
		}
	}
	all := append(spans(every(5, ends)), spans(every(3, quarters(10)))...)
	for _, op := range operations() {
		for i, a := range all {
			for j, b := range all {
				if (i+j)%5 == 0 && (op.name != "Div" || divisorError(b) == api.OK) {
					checkNumbers(t, op, a, b, []int{0, 1, 3, 70, 1000}[(i+j)/5%5])
				}
			}
		}
	}
}

// inside returns those of the intervals that are within a.
func inside(all []api.Interval, a api.Interval) []api.Interval {
	var parts []api.Interval
	for _, b := range all {
		if interval.Within(b, a) {
			parts = append(parts, b)
		}
	}
	return parts
}

// If both arguments lie within others, so does the result; also at a finer precision.
func TestSmallerArguments(t *testing.T) {
	all := spans(every(3, quarters(16)))
	for i, a := range all {
		partsA := inside(all, a)
		for j, b := range all {
			partsB := inside(all, b)
			for _, op := range operations() {
				w := (i + j) % 5
				larger, err := op.call(a, b, w)
				if err != api.OK {
					continue
				}
				for k := range 4 {
					x, y := partsA[(i+j*3+k*5)%len(partsA)], partsB[(j+i*5+k*3)%len(partsB)]
					for _, finer := range []int{w, 2*w + 1} {
						smaller, err := op.call(x, y, finer)
						if err != api.OK || !interval.Within(smaller, larger) {
							t.Errorf("%s(%s, %s) at %d = %s, error %d, which is not within %s", op.name, shortSpan(x), shortSpan(y), finer, shortSpan(smaller), err, shortSpan(larger))
						}
					}
				}
			}
		}
	}
}
