package exponential_test

import (
	"math/big"
	"slices"
	"testing"

	"exactreal/api"
	"exactreal/constant"
	"exactreal/exponential"
	"exactreal/interval"
)

// P14.1

// raisedEnds returns the bounds of e to the power of each number, as they are needed for results at w.
func raisedEnds(all []api.Dyadic, w int) []bounds {
	var found []bounds
	for _, d := range all {
		found = append(found, raised(d, w+spare))
	}
	return found
}

// isClose reports whether an interval is close at w to the numbers from least to greatest, and does not begin below zero.
func isClose(got api.Interval, w int, least, greatest bounds) bool {
	lo, hi, ok := units(got, w)
	if !ok || lo.Sign() < 0 {
		return false
	}
	lo.Lsh(lo, spare)
	hi.Lsh(hi, spare)
	two := power(spare + 1)
	contains := lo.Cmp(least.lo) <= 0 && hi.Cmp(greatest.hi) >= 0
	isNearLo := new(big.Int).Add(lo, two).Cmp(least.hi) >= 0
	isNearHi := new(big.Int).Sub(hi, two).Cmp(greatest.lo) <= 0
	return contains && isNearLo && isNearHi
}

// checkRaised checks that Exp of a at w is close to the numbers from least to greatest.
func checkRaised(t *testing.T, a api.Interval, w int, least, greatest bounds) {
	t.Helper()
	got, err := exponential.Exp(a, w)
	if err != api.OK || !isClose(got, w, least, greatest) {
		t.Errorf("Exp(%s, %d) = %s, error %d: not close", shortSpan(a), w, shortSpan(got), err)
	}
}

// checkExp checks that Exp of a at w is close to the image of a.
func checkExp(t *testing.T, a api.Interval, w int) {
	t.Helper()
	checkRaised(t, a, w, raised(a.Lo, w+spare), raised(a.Hi, w+spare))
}

// checkExpError checks that Exp returns an error and nothing besides.
func checkExpError(t *testing.T, a api.Interval, w int, want api.Errno) {
	t.Helper()
	if got, err := exponential.Exp(a, w); err != want || !identical(got, api.Interval{}) {
		t.Errorf("Exp(%s, %d) = %s, error %d, want error %d", shortSpan(a), w, shortSpan(got), err, want)
	}
}

func TestExpOfExamples(t *testing.T) {
	got, err := exponential.Exp(api.Interval{}, 3)
	lo, hi, ok := units(got, 3)
	if err != api.OK || !ok || !slices.Contains([]int64{6, 7, 8}, lo.Int64()) || !slices.Contains([]int64{8, 9, 10}, hi.Int64()) {
		t.Errorf("Exp of (0, 0) at 3 = %s, error %d", shortSpan(got), err)
	}
	checkExpError(t, point(dy(2000, 0)), 3, api.ErrLarge)
}

// Results that are written out: all ends that the chapter allows.
func TestExpWrittenOut(t *testing.T) {
	for _, c := range []struct {
		a            api.Interval
		w            int
		loFrom, loTo int64
		hiFrom, hiTo int64
	}{
		{point(dy(1, 0)), 0, 1, 2, 3, 4},
		{point(dy(1, 0)), 3, 20, 21, 22, 23},
		{point(dy(-1, 0)), 0, 0, 0, 1, 2},
		{point(dy(-1, 0)), 10, 375, 376, 377, 378},
		{span(dy(-1, 0), dy(1, 0)), 2, 0, 1, 11, 12},
		{span(dy(0, 0), dy(1, -1)), 4, 14, 16, 27, 28},
		{point(dy(5, 1)), 0, 22025, 22026, 22027, 22028},
		{point(dy(-5, 2)), 20, 0, 0, 1, 2},
		{span(dy(-3, 5), dy(0, 0)), 1, 0, 0, 2, 4},
	} {
		got, err := exponential.Exp(c.a, c.w)
		lo, hi, ok := units(got, c.w)
		isLo := func() bool { return c.loFrom <= lo.Int64() && lo.Int64() <= c.loTo }
		isHi := func() bool { return c.hiFrom <= hi.Int64() && hi.Int64() <= c.hiTo }
		if err != api.OK || !ok || !isLo() || !isHi() {
			t.Errorf("Exp(%s, %d) = %s, error %d", shortSpan(c.a), c.w, shortSpan(got), err)
		}
	}
}

// Every interval of quarters around zero, at the least precisions.
func TestExpOfSmallNumbers(t *testing.T) {
	var all []api.Dyadic
	for n := int64(-20); n <= 12; n++ {
		all = append(all, dy(n, -2))
	}
	for w := 0; w <= 6; w++ {
		found := raisedEnds(all, w)
		for i := range all {
			for j := i; j < len(all); j++ {
				checkRaised(t, span(all[i], all[j]), w, found[i], found[j])
			}
		}
	}
}

func TestExpOfPoints(t *testing.T) {
	all := ends()
	for _, w := range precisions() {
		for i, bound := range raisedEnds(all, w) {
			checkRaised(t, point(all[i]), w, bound, bound)
		}
	}
}

func TestExpOfPointsAtGreatPrecisions(t *testing.T) {
	all := ends()
	for i, w := range greatPrecisions() {
		some := every(3, all[i%3:])
		for j, bound := range raisedEnds(some, w) {
			checkRaised(t, point(some[j]), w, bound, bound)
		}
	}
}

func TestExpOfIntervals(t *testing.T) {
	all := ends()
	for _, w := range []int{0, 3, 64} {
		found := raisedEnds(all, w)
		for i := range all {
			for j := i + 1; j < len(all); j += 1 + i%3 {
				checkRaised(t, span(all[i], all[j]), w, found[i], found[j])
			}
		}
	}
}

func TestExpOfIntervalsAtGreatPrecisions(t *testing.T) {
	for i, w := range greatPrecisions() {
		some := every(7, ends()[i:])
		found := raisedEnds(some, w)
		for j := range some {
			k := (j*5 + i) % len(some)
			checkRaised(t, span(some[min(j, k)], some[max(j, k)]), w, found[min(j, k)], found[max(j, k)])
		}
	}
}

// MaxArgument and the number below it at all kinds of precisions, alone and with ends far from it.
func TestExpAtTheLimit(t *testing.T) {
	limit := dy(api.MaxArgument, 0)
	for _, w := range slices.Concat(precisions(), greatPrecisions()) {
		for _, hi := range []api.Dyadic{limit, beside(limit, -1)} {
			greatest := raised(hi, w+spare)
			checkRaised(t, point(hi), w, greatest, greatest)
			for _, lo := range []api.Dyadic{{}, beside(limit, -2), dy(-1, api.MaxMagnitude-1)} {
				checkRaised(t, span(lo, hi), w, raised(lo, w+spare), greatest)
			}
		}
	}
}

// Far below zero, an interval contains a number that is nearly 0, but no negative one.
func TestExpFarBelowZero(t *testing.T) {
	far := []api.Dyadic{dy(-3000, 0), dy(-api.MaxWork, 0), beside(dy(-api.MaxWork, 0), -1), dy(-finest, 0), dy(-1, 31), dy(-1, 32), dy(-1, 64), dy(-1, 2000), dy(-1, api.MaxMagnitude-1), wide(negative(ones(api.MaxMagnitude+finest)), -finest)}
	for _, w := range slices.Concat(precisions(), greatPrecisions()) {
		for _, lo := range far {
			for _, hi := range far {
				if compare(lo, hi) > 0 {
					continue
				}
				got, err := exponential.Exp(span(lo, hi), w)
				_, last, ok := units(got, w)
				if err != api.OK || !ok || !same(got.Lo, api.Dyadic{}) || last.Sign() <= 0 || last.Cmp(big.NewInt(2)) > 0 {
					t.Errorf("Exp(%s, %d) = %s, error %d", shortSpan(span(lo, hi)), w, shortSpan(got), err)
				}
			}
		}
	}
}

// Ends where the power is about as great as the unit, and where it begins to be greater.
func TestExpAroundTheUnit(t *testing.T) {
	for _, w := range []int{0, 1, 3, 12, 64, 500, 1000} {
		about := int64(w) * 710 / 1024
		for n := about - 4; n <= about+4; n++ {
			for quarter := int64(0); quarter < 4; quarter++ {
				checkExp(t, point(dy(-4*n-quarter, -2)), w)
			}
		}
	}
	for n := int64(2830); n <= 2850; n += 3 {
		checkExp(t, point(dy(-n, 0)), api.MaxWork)
	}
}

func TestExpAtAllPrecisions(t *testing.T) {
	for w := 0; w <= api.MaxWork; w += 1 + w/40 {
		for _, d := range []api.Dyadic{dy(1, 0), dy(-1, 0), beside(dy(5, -4), -1), dy(-100, 0), dy(300, 0)} {
			checkExp(t, point(d), w)
		}
	}
}

// Each power of two as an end, positive where that is allowed, and negative.
func TestExpOfPowersOfTwo(t *testing.T) {
	for exp := -150; exp <= 12; exp++ {
		for _, w := range []int{0, 31, 64, 130} {
			checkExp(t, point(dy(-1, exp)), w)
			if exp < 10 {
				checkExp(t, span(dy(-1, exp), dy(1, exp)), w)
			}
		}
	}
}

// neighbours returns multiples of 2^-w, as numbers of units, the logarithms of which may be ends.
func neighbours(w int) []*big.Int {
	one := power(w)
	all := []*big.Int{big.NewInt(1), big.NewInt(2), big.NewInt(3), big.NewInt(10), big.NewInt(22026), ones(20), ones(w + 1), one, plus(one, 1), outer(w + 2), power(w + 1), times(one, 3), plus(times(one, 5), -1), outer(w + 700), ones(w + 1441)}
	if w > 1 {
		all = append(all, ones(w-1), plus(one, -1))
	}
	return all
}

// logarithmEnds returns the two ends that are next to the logarithm of n * 2^-w, below and above it.
func logarithmEnds(n *big.Int, w int) (below, above api.Dyadic) {
	if n.Cmp(power(w)) == 0 {
		return dy(-1, -finest), dy(1, -finest)
	}
	below = wide(logarithm(n, power(w), finest), -finest)
	return below, beside(below, 1)
}

// checkNear checks that each end of a result is, in units of 2^-w, one of two numbers: the lower one n + loFrom or n + loFrom + 1, the greater one n + hiFrom or n + hiFrom + 1.
func checkNear(t *testing.T, d api.Dyadic, w int, got api.Interval, err api.Errno, n *big.Int, loFrom, hiFrom int64) {
	t.Helper()
	lo, hi, ok := units(got, w)
	isNear := func(end *big.Int, from int64) bool {
		return end.Cmp(plus(n, from)) >= 0 && end.Cmp(plus(n, from+1)) <= 0
	}
	if err != api.OK || !ok || lo.Sign() < 0 || !isNear(lo, loFrom) || !isNear(hi, hiFrom) {
		t.Errorf("Exp of the point %s at %d = %s, error %d", short(d), w, shortSpan(got), err)
	}
}

// Powers that are closer to the grid than any that is found with some thousand digits: on which side of it they lie is not seen, so an error that is not allowed for would put them outside of the interval.
func TestExpBesideTheGrid(t *testing.T) {
	for _, w := range []int{0, 1, 3, 12, 64, 999, 2500, api.MaxWork} {
		for _, n := range neighbours(w) {
			below, above := logarithmEnds(n, w)
			got, err := exponential.Exp(point(below), w)
			checkNear(t, below, w, got, err, n, -2, 0)
			got, err = exponential.Exp(point(above), w)
			checkNear(t, above, w, got, err, n, -1, 1)
			got, err = exponential.Exp(span(above, beside(above, 1)), w)
			checkNear(t, above, w, got, err, n, -1, 1)
		}
	}
}

// Working precisions are looked at first, then the greater end alone.
func TestExpErrors(t *testing.T) {
	limit := dy(api.MaxArgument, 0)
	tooLarge := []api.Dyadic{beside(limit, 1), dy(2*api.MaxArgument+1, -1), dy(1001, 0), dy(2000, 0), dy(top, 0), dy(1, 64), dy(1, api.MaxMagnitude-1), wide(ones(api.MaxMagnitude+finest), -finest)}
	for _, hi := range tooLarge {
		for _, lo := range []api.Dyadic{hi, limit, {}, dy(1, -finest), dy(-1, api.MaxMagnitude-1), tooLarge[0]} {
			a := span(lo, hi)
			for _, w := range slices.Concat(precisions(), greatPrecisions()) {
				checkExpError(t, a, w, api.ErrLarge)
			}
			for _, w := range outside() {
				checkExpError(t, a, w, api.ErrArg)
			}
		}
	}
	for _, a := range []api.Interval{{}, point(limit), point(dy(-1, 5)), span(dy(-1, 2000), limit)} {
		for _, w := range outside() {
			checkExpError(t, a, w, api.ErrArg)
		}
	}
}

// Consequences

func TestExpOfZeroContainsOne(t *testing.T) {
	one := bounds{power(spare), power(spare)}
	for w := 0; w <= api.MaxWork; w++ {
		exact := bounds{new(big.Int).Lsh(one.lo, uint(w)), new(big.Int).Lsh(one.hi, uint(w))}
		checkRaised(t, api.Interval{}, w, exact, exact)
	}
}

// Results for intervals with a common number have numbers in common, at any two precisions.
func TestExpOfCommonNumbers(t *testing.T) {
	some := every(4, ends())
	var all []api.Interval
	var results [][]api.Interval
	for i, lo := range some {
		for _, hi := range every(3, some[i:]) {
			a := span(lo, hi)
			var atAll []api.Interval
			for _, w := range []int{0, 3, 40} {
				got, _ := exponential.Exp(a, w)
				atAll = append(atAll, got)
			}
			all, results = append(all, a), append(results, atAll)
		}
	}
	for i := range all {
		for j := range i {
			if _, common := interval.Meet(all[i], all[j]); !common {
				continue
			}
			for k := range 9 {
				x, y := results[i][k/3], results[j][k%3]
				if _, meets := interval.Meet(x, y); !meets {
					t.Errorf("the results for %s and %s, %s and %s, have no number in common", shortSpan(all[i]), shortSpan(all[j]), shortSpan(x), shortSpan(y))
				}
			}
		}
	}
}

// Exp(a) and Exp(-a), multiplied, contain 1.
func TestExpOfOpposites(t *testing.T) {
	var some []api.Dyadic
	for _, d := range ends() {
		if compare(opposite(d), dy(api.MaxArgument, 0)) <= 0 {
			some = append(some, d)
		}
	}
	for _, w := range []int{0, 1, 3, 64, 1000} {
		for i, lo := range some {
			for _, hi := range every(5, some[i:]) {
				a := span(lo, hi)
				x, _ := exponential.Exp(a, w)
				y, _ := exponential.Exp(mirrored(a), w)
				xLo, xHi, _ := units(x, w)
				yLo, yHi, _ := units(y, w)
				one := power(2 * w)
				if xLo.Mul(xLo, yLo).Cmp(one) > 0 || xHi.Mul(xHi, yHi).Cmp(one) < 0 {
					t.Errorf("Exp of %s at %d is %s, and %s of the opposite: the products do not contain 1", shortSpan(a), w, shortSpan(x), shortSpan(y))
				}
			}
		}
	}
}

// The constants of the layer below: e is a power of itself, and 2 that with the exponent ln 2.
func TestExpOfConstants(t *testing.T) {
	two := dy(2, 0)
	for _, w := range slices.Concat(precisions(), greatPrecisions()) {
		e, _ := constant.E(w)
		got, _ := exponential.Exp(point(dy(1, 0)), w)
		if _, meets := interval.Meet(e, got); !meets {
			t.Errorf("Exp(1, %d) = %s, but e is in %s", w, shortSpan(got), shortSpan(e))
		}
		ln2, _ := constant.Ln2(w)
		got, _ = exponential.Exp(ln2, w)
		if !interval.Within(point(two), got) {
			t.Errorf("Exp of ln 2 at %d = %s does not contain 2", w, shortSpan(got))
		}
	}
}
