package arctangent_test

import (
	"math/big"
	"slices"
	"strings"
	"testing"

	"exactreal/api"
	"exactreal/arctangent"
	"exactreal/arith"
	"exactreal/constant"
	"exactreal/interval"
)

// P16.1

// isClose reports whether an interval is close at w to the numbers from least to greatest.
func isClose(got api.Interval, w int, least, greatest bounds) bool {
	lo, hi, ok := units(got, w)
	if !ok {
		return false
	}
	more := uint(known - w)
	lo.Lsh(lo, more)
	hi.Lsh(hi, more)
	two := power(known - w + 1)
	contains := lo.Cmp(least.lo) <= 0 && hi.Cmp(greatest.hi) >= 0
	isNearLo := new(big.Int).Add(lo, two).Cmp(least.hi) >= 0
	isNearHi := new(big.Int).Sub(hi, two).Cmp(greatest.lo) <= 0
	return contains && isNearLo && isNearHi
}

// checkAtan checks that Atan of a at w is close to the numbers from least to greatest.
func checkAtan(t *testing.T, a api.Interval, w int, least, greatest bounds) {
	t.Helper()
	got, err := arctangent.Atan(a, w)
	if err != api.OK || !isClose(got, w, least, greatest) {
		t.Errorf("Atan(%s, %d) = %s, error %d: not close", shortSpan(a), w, shortSpan(got), err)
	}
}

// checkAtanError checks that Atan returns an error and nothing besides.
func checkAtanError(t *testing.T, a api.Interval, w int, want api.Errno) {
	t.Helper()
	if got, err := arctangent.Atan(a, w); err != want || !identical(got, api.Interval{}) {
		t.Errorf("Atan(%s, %d) = %s, error %d, want error %d", shortSpan(a), w, shortSpan(got), err, want)
	}
}

func TestAtanOfZeroContainsZero(t *testing.T) {
	zero := angle(api.Dyadic{})
	checkAtan(t, api.Interval{}, 4, zero, zero)
	for w := 0; w <= api.MaxWork; w += 1 + w/60 {
		checkAtan(t, api.Interval{}, w, zero, zero)
	}
	checkAtan(t, api.Interval{}, api.MaxWork, zero, zero)
}

// Results that are written out: all ends that the chapter allows.
func TestAtanWrittenOut(t *testing.T) {
	for _, c := range []struct {
		a            api.Interval
		w            int
		loFrom, loTo int64
		hiFrom, hiTo int64
	}{
		{point(dy(0, 0)), 0, -2, 0, 0, 2},
		{point(dy(0, 0)), 4, -2, 0, 0, 2},
		{point(dy(1, 0)), 0, -1, 0, 1, 2},
		{point(dy(1, 0)), 10, 803, 804, 805, 806},
		{point(dy(-1, 0)), 10, -806, -805, -804, -803},
		{point(dy(1, -1)), 10, 473, 474, 475, 476},
		{point(dy(3, 0)), 3, 8, 9, 10, 11},
		{point(dy(10, 0)), 5, 46, 47, 48, 49},
		{point(dy(-1, 2000)), 4, -27, -26, -25, -24},
		{point(least()), 4, -1, 0, 1, 2},
		{point(opposite(least())), 4, -2, -1, 0, 1},
		{point(greatest()), 0, 0, 1, 2, 3},
		{point(greatest()), 10, 1607, 1608, 1609, 1610},
		{span(dy(-1, 0), dy(2, 0)), 10, -806, -805, 1134, 1135},
		{span(dy(0, 0), dy(1, 0)), 2, -2, 0, 4, 5},
		{span(dy(-1, 0), dy(0, 0)), 2, -5, -4, 0, 2},
		{span(least(), greatest()), 1, -1, 0, 4, 5},
		{mirrored(point(greatest())), 0, -3, -2, -1, 0},
		{span(opposite(greatest()), greatest()), 0, -3, -2, 2, 3},
	} {
		got, err := arctangent.Atan(c.a, c.w)
		lo, hi, ok := units(got, c.w)
		isLo := func() bool { return c.loFrom <= lo.Int64() && lo.Int64() <= c.loTo }
		isHi := func() bool { return c.hiFrom <= hi.Int64() && hi.Int64() <= c.hiTo }
		if err != api.OK || !ok || !isLo() || !isHi() {
			t.Errorf("Atan(%s, %d) = %s, error %d", shortSpan(c.a), c.w, shortSpan(got), err)
		}
	}
}

// Results that are compared with decimals only.
func TestAtanOfDecimals(t *testing.T) {
	const w = 360
	scale := new(big.Int).Exp(big.NewInt(10), big.NewInt(100), nil)
	for text, d := range decimals() {
		number, _ := new(big.Int).SetString(strings.Replace(text, ".", "", 1), 10)
		got, err := arctangent.Atan(point(d), w)
		lo, hi, ok := units(got, w)
		if err != api.OK || !ok {
			t.Errorf("Atan(%s, %d) = %s, error %d", short(d), w, shortSpan(got), err)
			continue
		}
		// A unit of the last digit is greater than 2^27 units of 2^-w.
		below, above := plus(number, -1), plus(number, 1)
		isLo := new(big.Int).Mul(lo, scale).Cmp(below.Lsh(below, w)) >= 0
		isHi := new(big.Int).Mul(hi, scale).Cmp(above.Lsh(above, w)) <= 0
		if !isLo || !isHi || lo.Cmp(hi) > 0 {
			t.Errorf("Atan(%s, %d) = %s, want about %s", short(d), w, shortSpan(got), text)
		}
	}
}

// Every interval of eighths near zero, at the least precisions.
func TestAtanOfSmallNumbers(t *testing.T) {
	var all []api.Dyadic
	for n := int64(-19); n <= 19; n++ {
		all = append(all, dy(n, -3))
	}
	found := angles(all)
	for w := 0; w <= 6; w++ {
		for i := range all {
			for j := i; j < len(all); j++ {
				checkAtan(t, span(all[i], all[j]), w, found[i], found[j])
			}
		}
	}
}

func TestAtanOfPoints(t *testing.T) {
	all := ends()
	for _, w := range precisions() {
		for i, bound := range anglesOfEnds() {
			checkAtan(t, point(all[i]), w, bound, bound)
		}
	}
}

func TestAtanOfPointsAtGreatPrecisions(t *testing.T) {
	all := ends()
	for i, w := range greatPrecisions() {
		for j := i % 4; j < len(all); j += 4 {
			bound := anglesOfEnds()[j]
			checkAtan(t, point(all[j]), w, bound, bound)
		}
	}
	for i, bound := range anglesOfEnds() {
		checkAtan(t, point(all[i]), api.MaxWork, bound, bound)
	}
}

func TestAtanOfIntervals(t *testing.T) {
	all, found := ends(), anglesOfEnds()
	for _, w := range []int{0, 1, 3, 64} {
		for i := range all {
			for j := i + 1; j < len(all); j += 2 + i%5 {
				checkAtan(t, span(all[i], all[j]), w, found[i], found[j])
			}
		}
	}
}

func TestAtanOfIntervalsAtGreatPrecisions(t *testing.T) {
	all, found := ends(), anglesOfEnds()
	for i, w := range greatPrecisions() {
		for j := i; j < len(all); j += 13 {
			k := (j*5 + i) % len(all)
			checkAtan(t, span(all[min(j, k)], all[max(j, k)]), w, found[min(j, k)], found[max(j, k)])
		}
		last := len(all) - 1
		checkAtan(t, span(all[0], all[last]), w, found[0], found[last])
	}
}

// Intervals with zero as an end, and on both sides of it.
func TestAtanAroundZero(t *testing.T) {
	zero := angle(api.Dyadic{})
	for i, d := range positive() {
		found := angle(d)
		minus := bounds{negative(found.hi), negative(found.lo)}
		for _, w := range []int{0, 1, 3, 64, precisions()[i%len(precisions())], 400} {
			checkAtan(t, span(api.Dyadic{}, d), w, zero, found)
			checkAtan(t, span(opposite(d), api.Dyadic{}), w, minus, zero)
			checkAtan(t, span(opposite(d), d), w, minus, found)
		}
	}
}

// isEnd reports whether a small interval may end at d, which is valid.
func isEnd(d api.Dyadic) bool {
	return d.Exp >= -finest && mantissa(d).BitLen()+d.Exp <= highest
}

// Powers of two, as far as small intervals go, and the numbers next to them.
func TestAtanOfPowersOfTwo(t *testing.T) {
	for exp := -finest; exp < highest; exp += 1 + max(exp, -exp)/15 {
		two := dy(1, exp)
		for _, d := range []api.Dyadic{two, opposite(two), beside(two, 1), beside(two, -1), dy(3, exp-1)} {
			if !isEnd(d) {
				continue
			}
			found := angle(d)
			for _, w := range []int{0, 1, 3, 64, 200, min(max(exp, -exp), api.MaxWork)} {
				checkAtan(t, point(d), w, found, found)
			}
		}
	}
}

// The arctangents of powers of two are just below the grid, and the halvings begin and end next to 2^-10 and 2^10.
func TestAtanOfPowersOfTwoAtAllPrecisions(t *testing.T) {
	for exp := -40; exp <= 40; exp++ {
		for _, man := range []int64{1, -1} {
			d := dy(man, exp)
			found := angle(d)
			for w := 0; w <= 140; w++ {
				checkAtan(t, point(d), w, found, found)
			}
		}
	}
}

// Numbers next to 1 and to -1 at all distances, alone and on both sides of it.
func TestAtanNextToOne(t *testing.T) {
	one := angle(dy(1, 0))
	for places := 1; places <= finest; places += 1 + places/10 {
		lo, hi := wide(ones(places), -places), wide(plus(power(places), 1), -places)
		below, above := angle(lo), angle(hi)
		for _, w := range []int{0, 3, 64, 500, min(places, api.MaxWork)} {
			for _, c := range []struct {
				lo, hi          api.Dyadic
				least, greatest bounds
			}{{lo, lo, below, below}, {hi, hi, above, above}, {lo, hi, below, above}, {dy(1, 0), hi, one, above}, {lo, dy(1, 0), below, one}} {
				checkAtan(t, span(c.lo, c.hi), w, c.least, c.greatest)
				minusLo, minusHi := bounds{negative(c.greatest.hi), negative(c.greatest.lo)}, bounds{negative(c.least.hi), negative(c.least.lo)}
				checkAtan(t, mirrored(span(c.lo, c.hi)), w, minusLo, minusHi)
			}
		}
	}
}

func TestAtanAtAllPrecisions(t *testing.T) {
	all := []api.Dyadic{dy(1, 0), dy(-3, 0), dy(5, -4), beside(dy(1, -10), 1), beside(dy(1, 10), -1), wide(outer(finest+300), -finest), dy(-1, -30)}
	found := angles(all)
	for w := 0; w <= api.MaxWork; w += 1 + w/25 {
		for i, d := range all {
			checkAtan(t, point(d), w, found[i], found[i])
		}
	}
}

// neighbours returns positive multiples of 2^-w that are less than pi / 2, as numbers of units, the tangents of which may be ends.
func neighbours(w int) []*big.Int {
	right := rightAngle(w)
	half := new(big.Int).Rsh(right, 1)
	all := []*big.Int{big.NewInt(1), big.NewInt(2), big.NewInt(5), power(w), plus(power(w), -1), plus(power(w), 1), half, plus(half, 1), times(power(w), 11)}
	all[len(all)-1].Rsh(all[len(all)-1], 3)
	if w > 1 {
		all = append(all, power(w-1), plus(power(w-1), 1), times(power(w-1), 3), power(w-2), ones(w-2))
	}
	if w < 1000 {
		// Their tangents are as large as 2^w, and more.
		all = append(all, right, plus(right, -1))
	}
	return slices.DeleteFunc(all, func(n *big.Int) bool {
		return n.Sign() == 0 || n.Cmp(right) > 0
	})
}

// checkNear checks that each end of the result for a is, in units of 2^-w, one of two numbers: the lower one n + loFrom or n + loFrom + 1, the greater one n + hiFrom or n + hiFrom + 1.
func checkNear(t *testing.T, a api.Interval, w int, n *big.Int, loFrom, hiFrom int64) {
	t.Helper()
	got, err := arctangent.Atan(a, w)
	lo, hi, ok := units(got, w)
	isNear := func(end *big.Int, from int64) bool {
		return end.Cmp(plus(n, from)) >= 0 && end.Cmp(plus(n, from+1)) <= 0
	}
	if err != api.OK || !ok || !isNear(lo, loFrom) || !isNear(hi, hiFrom) {
		t.Errorf("Atan(%s, %d) = %s, error %d, next to %s units", shortSpan(a), w, shortSpan(got), err, n)
	}
}

// checkBeside checks the results for the two ends below and above the tangent of n * 2^-w.
func checkBeside(t *testing.T, below, above api.Dyadic, w int, n *big.Int) {
	t.Helper()
	checkNear(t, point(below), w, n, -2, 0)
	checkNear(t, point(above), w, n, -1, 1)
	checkNear(t, span(beside(below, -1), below), w, n, -2, 0)
	checkNear(t, span(above, beside(above, 1)), w, n, -1, 1)
	checkNear(t, span(below, above), w, n, -2, 1)
}

// Arctangents that are closer to the grid than any that is found with some thousand digits: on which side of it they lie is not seen, so an error that is not allowed for would put them outside of the interval.
func TestAtanBesideTheGrid(t *testing.T) {
	for _, w := range []int{0, 1, 3, 12, 64, 999, 2500, api.MaxWork} {
		checkBeside(t, opposite(least()), least(), w, new(big.Int))
		for i, n := range neighbours(w) {
			below := wide(tangent(n, w), -finest)
			above := beside(below, 1)
			if w < 1000 || i%2 == 0 {
				checkBeside(t, below, above, w, n)
			}
			if w < 1000 || i%2 == 1 {
				checkBeside(t, opposite(above), opposite(below), w, negative(n))
			}
		}
	}
}

func TestAtanErrors(t *testing.T) {
	all := ends()
	for i, lo := range all {
		for _, hi := range []api.Dyadic{lo, all[(i+len(all))/2], all[len(all)-1]} {
			for _, w := range outside() {
				checkAtanError(t, span(lo, hi), w, api.ErrArg)
			}
		}
	}
}

// Consequences

// spans returns points and intervals, which end at each n-th one of the ends only.
func spans(n int) []api.Interval {
	var all []api.Interval
	some := every(n, ends())
	for i, lo := range some {
		all = append(all, point(lo))
		for _, hi := range every(3, some[i+1:]) {
			all = append(all, span(lo, hi))
		}
	}
	return all
}

// distance returns the absolute value of the difference of two numbers of the grid of w, in its units.
func distance(x, y api.Dyadic, w int) *big.Int {
	v, _ := scaled(x, w)
	n, _ := scaled(y, w)
	return v.Abs(v.Sub(v, n))
}

// checkOpposite checks that Atan of -a is Atan of a with the opposite sign, up to 4 * 2^-w.
func checkOpposite(t *testing.T, a api.Interval, w int) {
	t.Helper()
	x, err := arctangent.Atan(a, w)
	y, again := arctangent.Atan(mirrored(a), w)
	y = mirrored(y)
	four := big.NewInt(4)
	if err != api.OK || again != api.OK || distance(x.Lo, y.Lo, w).Cmp(four) > 0 || distance(x.Hi, y.Hi, w).Cmp(four) > 0 {
		t.Errorf("Atan(%s, %d) = %s, but the opposite is that of %s", shortSpan(a), w, shortSpan(x), shortSpan(y))
	}
}

func TestAtanOfOpposites(t *testing.T) {
	for i, a := range spans(3) {
		checkOpposite(t, a, []int{0, 1, 3, 64, 200}[i%5])
	}
	for _, a := range every(60, spans(3)) {
		checkOpposite(t, a, api.MaxWork)
	}
}

// Four times the arctangent of 1 has numbers in common with pi.
func TestAtanOfOne(t *testing.T) {
	for _, w := range slices.Concat(precisions(), greatPrecisions()) {
		pi, _ := constant.Pi(w)
		quarter, _ := arctangent.Atan(point(dy(1, 0)), w)
		got, err := arith.Mul(point(dy(4, 0)), quarter, w)
		if _, meets := interval.Meet(got, pi); err != api.OK || !meets {
			t.Errorf("four times Atan(1, %d) is %s, but pi is in %s", w, shortSpan(got), shortSpan(pi))
		}
	}
}

// Results for intervals with common numbers have numbers in common, at any two precisions.
func TestAtanOfCommonNumbers(t *testing.T) {
	all := spans(8)
	var results [][]api.Interval
	for _, a := range all {
		var atAll []api.Interval
		for _, w := range []int{0, 3, 40} {
			got, _ := arctangent.Atan(a, w)
			atAll = append(atAll, got)
		}
		results = append(results, atAll)
	}
	for i := range all {
		for j := range i {
			if _, common := interval.Meet(all[i], all[j]); !common {
				continue
			}
			for k := range 9 {
				x, y := results[i][k/3], results[j][k%3]
				if _, meets := interval.Meet(x, y); !meets {
					t.Errorf("the results for %s and %s, %s and %s, have no number in common", shortSpan(all[i]), shortSpan(all[j]), shortSpan(x), shortSpan(y))
				}
			}
		}
	}
}
