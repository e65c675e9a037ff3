package logarithm_test

import (
	"math/big"
	"slices"
	"strings"
	"testing"

	"exactreal/api"
	"exactreal/arith"
	"exactreal/constant"
	"exactreal/exponential"
	"exactreal/interval"
	"exactreal/logarithm"
)

// P15.1

// isClose reports whether an interval is close at w to the numbers from least to greatest.
func isClose(got api.Interval, w int, least, greatest bounds) bool {
	lo, hi, ok := units(got, w)
	if !ok {
		return false
	}
	more := uint(known - w)
	lo.Lsh(lo, more)
	hi.Lsh(hi, more)
	two := power(known - w + 1)
	contains := lo.Cmp(least.lo) <= 0 && hi.Cmp(greatest.hi) >= 0
	isNearLo := new(big.Int).Add(lo, two).Cmp(least.hi) >= 0
	isNearHi := new(big.Int).Sub(hi, two).Cmp(greatest.lo) <= 0
	return contains && isNearLo && isNearHi
}

// checkLogged checks that Ln of a at w is close to the numbers from least to greatest.
func checkLogged(t *testing.T, a api.Interval, w int, least, greatest bounds) {
	t.Helper()
	got, err := logarithm.Ln(a, w)
	if err != api.OK || !isClose(got, w, least, greatest) {
		t.Errorf("Ln(%s, %d) = %s, error %d: not close", shortSpan(a), w, shortSpan(got), err)
	}
}

// checkLnError checks that Ln returns an error and nothing besides.
func checkLnError(t *testing.T, a api.Interval, w int, want api.Errno) {
	t.Helper()
	if got, err := logarithm.Ln(a, w); err != want || !identical(got, api.Interval{}) {
		t.Errorf("Ln(%s, %d) = %s, error %d, want error %d", shortSpan(a), w, shortSpan(got), err, want)
	}
}

func TestLnOfExamples(t *testing.T) {
	for _, w := range slices.Concat(precisions(), greatPrecisions()) {
		checkLnError(t, span(dy(0, 0), dy(1, 0)), w, api.ErrUnknown)
		checkLnError(t, span(dy(-1, 0), dy(0, 0)), w, api.ErrDomain)
	}
}

// Results that are written out: all ends that the chapter allows.
func TestLnWrittenOut(t *testing.T) {
	for _, c := range []struct {
		a            api.Interval
		w            int
		loFrom, loTo int64
		hiFrom, hiTo int64
	}{
		{point(dy(1, 0)), 0, -2, 0, 0, 2},
		{point(dy(1, 0)), 7, -2, 0, 0, 2},
		{point(dy(2, 0)), 0, -1, 0, 1, 2},
		{point(dy(2, 0)), 10, 708, 709, 710, 711},
		{point(dy(1, -1)), 0, -2, -1, 0, 1},
		{point(dy(1, -1)), 10, -711, -710, -709, -708},
		{point(dy(3, 0)), 3, 7, 8, 9, 10},
		{point(dy(3, -2)), 5, -11, -10, -9, -8},
		{point(dy(3, -1)), 5, 11, 12, 13, 14},
		{point(dy(125, 3)), 0, 5, 6, 7, 8},
		{span(dy(1, -1), dy(2, 0)), 1, -3, -2, 2, 3},
		{span(dy(1, -100), dy(1, 100)), 0, -71, -70, 70, 71},
		{span(dy(1, 0), dy(3, 0)), 2, -2, 0, 5, 6},
		{point(least()), 0, -5680, -5679, -5678, -5677},
		{point(greatest()), 0, 1418, 1419, 1420, 1421},
		{span(least(), greatest()), 2, -22715, -22714, 5679, 5680},
	} {
		got, err := logarithm.Ln(c.a, c.w)
		lo, hi, ok := units(got, c.w)
		isLo := func() bool { return c.loFrom <= lo.Int64() && lo.Int64() <= c.loTo }
		isHi := func() bool { return c.hiFrom <= hi.Int64() && hi.Int64() <= c.hiTo }
		if err != api.OK || !ok || !isLo() || !isHi() {
			t.Errorf("Ln(%s, %d) = %s, error %d", shortSpan(c.a), c.w, shortSpan(got), err)
		}
	}
}

// Results that are compared with decimals only.
func TestLnOfDecimals(t *testing.T) {
	const w = 360
	scale := new(big.Int).Exp(big.NewInt(10), big.NewInt(100), nil)
	for text, d := range decimals() {
		number, _ := new(big.Int).SetString(strings.Replace(text, ".", "", 1), 10)
		got, err := logarithm.Ln(point(d), w)
		lo, hi, ok := units(got, w)
		if err != api.OK || !ok {
			t.Errorf("Ln(%s, %d) = %s, error %d", short(d), w, shortSpan(got), err)
			continue
		}
		// A unit of the last digit is greater than 2^27 units of 2^-w.
		below, above := plus(number, -1), plus(number, 1)
		isLo := new(big.Int).Mul(lo, scale).Cmp(below.Lsh(below, w)) >= 0
		isHi := new(big.Int).Mul(hi, scale).Cmp(above.Lsh(above, w)) <= 0
		if !isLo || !isHi || lo.Cmp(hi) > 0 {
			t.Errorf("Ln(%s, %d) = %s, want about %s", short(d), w, shortSpan(got), text)
		}
	}
}

// Every interval of eighths above zero, at the least precisions.
func TestLnOfSmallNumbers(t *testing.T) {
	var all []api.Dyadic
	for n := int64(1); n <= 34; n++ {
		all = append(all, dy(n, -3))
	}
	found := loggedAll(all)
	for w := 0; w <= 6; w++ {
		for i := range all {
			for j := i; j < len(all); j++ {
				checkLogged(t, span(all[i], all[j]), w, found[i], found[j])
			}
		}
	}
}

func TestLnOfPoints(t *testing.T) {
	all := ends()
	for _, w := range precisions() {
		for i, bound := range loggedEnds() {
			checkLogged(t, point(all[i]), w, bound, bound)
		}
	}
}

func TestLnOfPointsAtGreatPrecisions(t *testing.T) {
	all := ends()
	for i, w := range greatPrecisions() {
		for j := i % 3; j < len(all); j += 3 {
			bound := loggedEnds()[j]
			checkLogged(t, point(all[j]), w, bound, bound)
		}
	}
	for i, bound := range loggedEnds() {
		checkLogged(t, point(all[i]), api.MaxWork, bound, bound)
	}
}

func TestLnOfIntervals(t *testing.T) {
	all, found := ends(), loggedEnds()
	for _, w := range []int{0, 1, 3, 64} {
		for i := range all {
			for j := i + 1; j < len(all); j += 1 + i%5 {
				checkLogged(t, span(all[i], all[j]), w, found[i], found[j])
			}
		}
	}
}

func TestLnOfIntervalsAtGreatPrecisions(t *testing.T) {
	all, found := ends(), loggedEnds()
	for i, w := range greatPrecisions() {
		for j := i; j < len(all); j += 7 {
			k := (j*5 + i) % len(all)
			checkLogged(t, span(all[min(j, k)], all[max(j, k)]), w, found[min(j, k)], found[max(j, k)])
		}
		last := len(all) - 1
		checkLogged(t, span(all[0], all[last]), w, found[0], found[last])
	}
}

// The powers of two and three quarters and three halves of them, as far as small intervals go.
func TestLnOfPowersOfTwo(t *testing.T) {
	ln2, ln3 := logged(dy(2, 0)), logged(dy(3, 0))
	for exp := -finest; exp < highest-1; exp += 1 + max(exp, -exp)/50 {
		two, three := sum(exactly(0), exp, ln2), sum(ln3, exp, ln2)
		for _, w := range []int{0, 31, 64, 200} {
			checkLogged(t, point(dy(1, exp)), w, two, two)
			checkLogged(t, point(dy(3, exp)), w, three, three)
			checkLogged(t, span(dy(1, exp), dy(3, exp)), w, two, three)
		}
	}
	for _, exp := range []int{-finest, 1 - finest, highest - 1} {
		two := sum(exactly(0), exp, ln2)
		for _, w := range slices.Concat(precisions(), greatPrecisions()) {
			checkLogged(t, point(dy(1, exp)), w, two, two)
		}
	}
}

// Numbers next to 1 at all distances, alone and on both sides of it.
func TestLnNextToOne(t *testing.T) {
	for places := 1; places <= finest; places += 1 + places/10 {
		lo, hi := wide(ones(places), -places), wide(plus(power(places), 1), -places)
		below, above := logged(lo), logged(hi)
		for _, w := range []int{0, 3, 64, 500, places % api.MaxWork, min(places, api.MaxWork)} {
			checkLogged(t, point(lo), w, below, below)
			checkLogged(t, point(hi), w, above, above)
			checkLogged(t, span(lo, hi), w, below, above)
			checkLogged(t, span(dy(1, 0), hi), w, exactly(0), above)
			checkLogged(t, span(lo, dy(1, 0)), w, below, exactly(0))
		}
	}
}

func TestLnAtAllPrecisions(t *testing.T) {
	all := []api.Dyadic{dy(3, 0), dy(5, -4), beside(dy(3, -2), -1), beside(dy(3, -1), -1), wide(outer(finest+300), -finest), least()}
	found := loggedAll(all)
	for w := 0; w <= api.MaxWork; w += 1 + w/25 {
		for i, d := range all {
			checkLogged(t, point(d), w, found[i], found[i])
		}
	}
}

// neighbours returns multiples of 2^-w from -1000 to 1419, as numbers of units, the powers of e with which may be ends.
func neighbours(w int) []*big.Int {
	one := power(w)
	all := []*big.Int{new(big.Int), big.NewInt(1), big.NewInt(2), big.NewInt(5), ones(w + 1), one, plus(one, 1), outer(w + 2), power(w + 3), times(one, 100), plus(times(one, 500), -1), ones(w + 9)}
	if w > 1 {
		all = append(all, ones(w-1), plus(one, -1), power(w-1))
	}
	for _, n := range slices.Clone(all) {
		all = append(all, negative(n))
	}
	return append(all, times(one, 1000), times(one, -1000), times(one, 1419), plus(times(one, 1419), -1), plus(times(one, -999), -1))
}

// powerEnds returns the two ends that are next to e^(n * 2^-w), below and above it.
func powerEnds(n *big.Int, w int) (below, above api.Dyadic) {
	if n.Sign() == 0 {
		return beside(dy(1, 0), -1), beside(dy(1, 0), 1)
	}
	below = wide(raised(n, w), -finest)
	return below, beside(below, 1)
}

// checkNear checks that each end of the result for a is, in units of 2^-w, one of two numbers: the lower one n + loFrom or n + loFrom + 1, the greater one n + hiFrom or n + hiFrom + 1.
func checkNear(t *testing.T, a api.Interval, w int, n *big.Int, loFrom, hiFrom int64) {
	t.Helper()
	got, err := logarithm.Ln(a, w)
	lo, hi, ok := units(got, w)
	isNear := func(end *big.Int, from int64) bool {
		return end.Cmp(plus(n, from)) >= 0 && end.Cmp(plus(n, from+1)) <= 0
	}
	if err != api.OK || !ok || !isNear(lo, loFrom) || !isNear(hi, hiFrom) {
		t.Errorf("Ln(%s, %d) = %s, error %d, next to %s units", shortSpan(a), w, shortSpan(got), err, n)
	}
}

// Logarithms that are closer to the grid than any that is found with some thousand digits: on which side of it they lie is not seen, so an error that is not allowed for would put them outside of the interval.
func TestLnBesideTheGrid(t *testing.T) {
	for _, w := range []int{0, 1, 3, 12, 64, 999, 2500, api.MaxWork} {
		for _, n := range neighbours(w) {
			below, above := powerEnds(n, w)
			checkNear(t, point(below), w, n, -2, 0)
			checkNear(t, point(above), w, n, -1, 1)
			checkNear(t, span(beside(below, -1), below), w, n, -2, 0)
			checkNear(t, span(above, beside(above, 1)), w, n, -1, 1)
			checkNear(t, span(below, above), w, n, -2, 1)
		}
	}
}

// Working precisions are looked at first, then the greater end, and the lower one last.
func TestLnErrors(t *testing.T) {
	permitted := slices.Concat(precisions(), greatPrecisions())
	for i, lo := range notPositive() {
		for _, hi := range notPositive()[i:] {
			for _, w := range permitted {
				checkLnError(t, span(lo, hi), w, api.ErrDomain)
			}
			for _, w := range outside() {
				checkLnError(t, span(lo, hi), w, api.ErrArg)
			}
		}
		for j, hi := range ends() {
			checkLnError(t, span(lo, hi), permitted[j%len(permitted)], api.ErrUnknown)
			checkLnError(t, span(lo, hi), outside()[j%len(outside())], api.ErrArg)
		}
	}
	for _, hi := range []api.Dyadic{least(), dy(1, 0), greatest()} {
		for _, lo := range notPositive() {
			for _, w := range permitted {
				checkLnError(t, span(lo, hi), w, api.ErrUnknown)
			}
		}
		for _, lo := range []api.Dyadic{dy(-1, 0), {}, least()} {
			for _, w := range outside() {
				checkLnError(t, span(lo, hi), w, api.ErrArg)
			}
		}
	}
}

// Consequences

func TestLnOfOneContainsZero(t *testing.T) {
	for w := 0; w <= api.MaxWork; w += 1 + w/60 {
		checkLogged(t, point(dy(1, 0)), w, exactly(0), exactly(0))
	}
	checkLogged(t, point(dy(1, 0)), api.MaxWork, exactly(0), exactly(0))
}

// isSmall reports whether a small interval may end at d, which is valid.
func isSmall(d api.Dyadic) bool {
	return d.Exp >= -finest && mantissa(d).BitLen()+d.Exp <= highest
}

// multiplied returns the interval of all products of numbers of two intervals of positive numbers, and whether it is small.
func multiplied(a, b api.Interval) (api.Interval, bool) {
	multiple := func(x, y api.Dyadic) api.Dyadic {
		return wide(new(big.Int).Mul(mantissa(x), mantissa(y)), x.Exp+y.Exp)
	}
	all := span(multiple(a.Lo, b.Lo), multiple(a.Hi, b.Hi))
	return all, isSmall(all.Lo) && isSmall(all.Hi)
}

// spans returns points and intervals, which end at each n-th one of the ends only.
func spans(n int) []api.Interval {
	var all []api.Interval
	some := every(n, ends())
	for i, lo := range some {
		all = append(all, point(lo))
		for _, hi := range every(3, some[i+1:]) {
			all = append(all, span(lo, hi))
		}
	}
	return all
}

// Ln(a * b) and Ln(a) + Ln(b) have numbers in common.
func TestLnOfProducts(t *testing.T) {
	all := spans(3)
	tested := 0
	for i, a := range all {
		for _, b := range all[:i+1] {
			product, ok := multiplied(a, b)
			if !ok {
				continue
			}
			tested++
			w := []int{0, 1, 3, 64, 200}[tested%5]
			x, _ := logarithm.Ln(a, w)
			y, _ := logarithm.Ln(b, w)
			both, _ := arith.Add(x, y, w)
			got, err := logarithm.Ln(product, w)
			if _, meets := interval.Meet(got, both); err != api.OK || !meets {
				t.Errorf("Ln of %s times %s at %d is %s, but the sum is %s", shortSpan(a), shortSpan(b), w, shortSpan(got), shortSpan(both))
			}
		}
	}
	if tested < 1000 {
		t.Errorf("only %d products", tested)
	}
}

// Exp(Ln(a)) and a have numbers in common; more than that, a is within it.
func TestExpOfLn(t *testing.T) {
	for _, w := range []int{0, 1, 3, 64, 1000} {
		for _, a := range spans(2) {
			if compare(a.Hi, dy(1, 1400)) > 0 {
				continue
			}
			logarithms, _ := logarithm.Ln(a, w)
			got, err := exponential.Exp(logarithms, w)
			if err != api.OK || !interval.Within(a, got) {
				t.Errorf("Exp of Ln of %s at %d is %s, error %d", shortSpan(a), w, shortSpan(got), err)
			}
		}
	}
	for _, a := range []api.Interval{point(dy(3, 0)), point(beside(dy(1, 0), 1)), point(dy(1, -1000)), span(dy(3, -2), dy(3, -1))} {
		logarithms, _ := logarithm.Ln(a, api.MaxWork)
		if got, err := exponential.Exp(logarithms, api.MaxWork); err != api.OK || !interval.Within(a, got) {
			t.Errorf("Exp of Ln of %s at MaxWork is %s, error %d", shortSpan(a), shortSpan(got), err)
		}
	}
}

// Results for intervals with common numbers have numbers in common, at any two precisions.
func TestLnOfCommonNumbers(t *testing.T) {
	all := spans(4)
	var results [][]api.Interval
	for _, a := range all {
		var atAll []api.Interval
		for _, w := range []int{0, 3, 40} {
			got, _ := logarithm.Ln(a, w)
			atAll = append(atAll, got)
		}
		results = append(results, atAll)
	}
	for i := range all {
		for j := range i {
			if _, common := interval.Meet(all[i], all[j]); !common {
				continue
			}
			for k := range 9 {
				x, y := results[i][k/3], results[j][k%3]
				if _, meets := interval.Meet(x, y); !meets {
					t.Errorf("the results for %s and %s, %s and %s, have no number in common", shortSpan(all[i]), shortSpan(all[j]), shortSpan(x), shortSpan(y))
				}
			}
		}
	}
}

// The constants of the layer below: the logarithm of 2 is one of them, and that of e is 1.
func TestLnOfConstants(t *testing.T) {
	for _, w := range slices.Concat(precisions(), greatPrecisions()) {
		ln2, _ := constant.Ln2(w)
		got, _ := logarithm.Ln(point(dy(2, 0)), w)
		if _, meets := interval.Meet(ln2, got); !meets {
			t.Errorf("Ln(2, %d) = %s, but the logarithm of 2 is in %s", w, shortSpan(got), shortSpan(ln2))
		}
		e, _ := constant.E(w)
		got, _ = logarithm.Ln(e, w)
		if !interval.Within(point(dy(1, 0)), got) {
			t.Errorf("Ln of e at %d = %s does not contain 1", w, shortSpan(got))
		}
	}
}
