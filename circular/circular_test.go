package circular_test

import (
	"math"
	"math/big"
	"slices"
	"testing"

	"exactreal/api"
	"exactreal/arith"
	"exactreal/circular"
)

// P17.1

// function is Sin or Cos.
type function struct {
	name string
	of   func(a api.Interval, w int) (api.Interval, api.Errno)
	// value returns what the tests know of it at a place.
	value func(p place) bounds
	// turns is the number of quarter turns by which it is ahead of the sine.
	turns int64
}

func functions() []function {
	return []function{
		{"Sin", circular.Sin, func(p place) bounds { return p.sine }, 0},
		{"Cos", circular.Cos, func(p place) bounds { return p.cosine }, 1},
	}
}

// named returns the function of a name.
func named(name string) function {
	all := functions()
	return all[slices.IndexFunc(all, func(f function) bool { return f.name == name })]
}

// image returns bounds of the least and the greatest value of the function between two places. Both are from -1 to 1.
func (f function) image(from, to place) (least, greatest bounds) {
	least, greatest = f.value(from), f.value(to)
	if least.lo.Cmp(greatest.lo) > 0 {
		least, greatest = greatest, least
	}
	for turns := from.first; turns <= min(to.last, from.first+3); turns++ {
		switch (turns + f.turns) & 3 {
		case 1:
			greatest = exactly(1)
		case 3:
			least = exactly(-1)
		}
	}
	return least, greatest
}

// isClose reports whether an interval is close at w to the numbers from least to greatest, and from -1 to 1.
func isClose(got api.Interval, w int, least, greatest bounds) bool {
	lo, hi, ok := units(got, w)
	if !ok {
		return false
	}
	more := uint(known - w)
	lo.Lsh(lo, more)
	hi.Lsh(hi, more)
	one, two := power(known), power(known-w+1)
	isInRange := lo.Cmp(negative(one)) >= 0 && hi.Cmp(one) <= 0
	contains := lo.Cmp(least.lo) <= 0 && hi.Cmp(greatest.hi) >= 0
	isNearLo := new(big.Int).Add(lo, two).Cmp(least.hi) >= 0
	isNearHi := new(big.Int).Sub(hi, two).Cmp(greatest.lo) <= 0
	return isInRange && contains && isNearLo && isNearHi
}

// check checks that the result of the function for the interval between two places is close at w.
func (f function) check(t *testing.T, from, to place, w int) {
	t.Helper()
	a := span(from.d, to.d)
	got, err := f.of(a, w)
	least, greatest := f.image(from, to)
	if err != api.OK || !isClose(got, w, least, greatest) {
		t.Errorf("%s(%s, %d) = %s, error %d: not close", f.name, shortSpan(a), w, shortSpan(got), err)
	}
}

// checkBoth checks this for both functions.
func checkBoth(t *testing.T, from, to place, w int) {
	t.Helper()
	for _, f := range functions() {
		f.check(t, from, to, w)
	}
}

// checkError checks that both functions return an error and nothing besides.
func checkError(t *testing.T, a api.Interval, w int, want api.Errno) {
	t.Helper()
	for _, f := range functions() {
		if got, err := f.of(a, w); err != want || !identical(got, api.Interval{}) {
			t.Errorf("%s(%s, %d) = %s, error %d, want error %d", f.name, shortSpan(a), w, shortSpan(got), err, want)
		}
	}
}

func TestOfZero(t *testing.T) {
	zero := at(api.Dyadic{})
	for w := 0; w <= api.MaxWork; w += 1 + w/60 {
		checkBoth(t, zero, zero, w)
	}
	checkBoth(t, zero, zero, api.MaxWork)
}

// Results that are written out: all ends that the chapter allows.
func TestWrittenOut(t *testing.T) {
	for _, c := range []struct {
		a            api.Interval
		w            int
		name         string
		loFrom, loTo int64
		hiFrom, hiTo int64
	}{
		{point(dy(0, 0)), 0, "Sin", -1, 0, 0, 1},
		{point(dy(0, 0)), 4, "Sin", -2, 0, 0, 2},
		{point(dy(0, 0)), 0, "Cos", -1, 1, 1, 1},
		{point(dy(0, 0)), 10, "Cos", 1022, 1024, 1024, 1024},
		{point(dy(1, 0)), 10, "Sin", 860, 861, 862, 863},
		{point(dy(1, 0)), 10, "Cos", 552, 553, 554, 555},
		{point(dy(-1, 0)), 10, "Sin", -863, -862, -861, -860},
		{point(dy(-1, 0)), 10, "Cos", 552, 553, 554, 555},
		{point(dy(2, 0)), 3, "Cos", -5, -4, -3, -2},
		{point(dy(1, 32)), 3, "Sin", -5, -4, -3, -2},
		{point(dy(1, 32)), 10, "Cos", -910, -909, -908, -907},
		{point(dy(-1, 32)), 10, "Sin", 472, 473, 474, 475},
		{point(dy(355, 0)), 20, "Sin", -33, -32, -31, -30},
		{point(dy(355, 0)), 20, "Cos", -1048576, -1048576, -1048575, -1048574},
		{point(dy(22, 0)), 0, "Sin", -1, -1, 0, 1},
		{span(dy(-1, 0), dy(1, 0)), 0, "Cos", -1, 0, 1, 1},
		{span(dy(-1, 0), dy(1, 0)), 20, "Cos", 566547, 566548, 1048576, 1048576},
		{span(dy(-1, 0), dy(1, 0)), 10, "Sin", -863, -862, 862, 863},
		{span(dy(1, 0), dy(3, -1)), 10, "Sin", 860, 861, 1022, 1023},
		{span(dy(1, 0), dy(2, 0)), 10, "Sin", 860, 861, 1024, 1024},
		{span(dy(2, 0), dy(4, 0)), 10, "Sin", -776, -775, 932, 933},
		{span(dy(4, 0), dy(5, 0)), 10, "Sin", -1024, -1024, -774, -773},
		{span(dy(5, 0), dy(7, 0)), 10, "Sin", -983, -982, 673, 674},
		{span(dy(1, 0), dy(3, 0)), 10, "Cos", -1015, -1014, 554, 555},
		{span(dy(3, 0), dy(4, 0)), 10, "Cos", -1024, -1024, -669, -668},
		{span(dy(4, 0), dy(6, 0)), 10, "Cos", -671, -670, 984, 985},
		{span(dy(0, 0), dy(3, 0)), 2, "Cos", -4, -4, 4, 4},
		{span(dy(0, 0), dy(4, 0)), 2, "Cos", -4, -4, 4, 4},
		{span(dy(-4, 0), dy(0, 0)), 2, "Cos", -4, -4, 4, 4},
		{span(dy(-2, 0), dy(-1, 0)), 10, "Sin", -1024, -1024, -861, -860},
		{span(dy(-1, 0), dy(2, 0)), 10, "Sin", -863, -862, 1024, 1024},
		{span(dy(-2, 0), dy(2, 0)), 10, "Sin", -1024, -1024, 1024, 1024},
		{span(dy(0, 0), dy(6, 0)), 3, "Sin", -8, -8, 8, 8},
		{span(dy(2, 0), dy(8, 0)), 3, "Sin", -8, -8, 8, 8},
		{span(dy(2, 0), dy(7, 0)), 10, "Sin", -1024, -1024, 932, 933},
		{span(dy(1, 0), dy(6, 0)), 10, "Cos", -1024, -1024, 984, 985},
		{span(dy(1, 0), dy(7, 0)), 10, "Cos", -1024, -1024, 1024, 1024},
		{span(dy(4, 0), dy(9, 0)), 10, "Cos", -934, -933, 1024, 1024},
		{span(dy(0, 0), dy(7, 0)), 0, "Sin", -1, -1, 1, 1},
		{span(dy(0, 0), dy(7, 0)), 20, "Sin", -1048576, -1048576, 1048576, 1048576},
		{span(dy(0, 0), dy(7, 0)), 20, "Cos", -1048576, -1048576, 1048576, 1048576},
		{span(dy(-1, 32), dy(1, 32)), 3, "Sin", -8, -8, 8, 8},
		{span(dy(-1, 32), dy(1, 32)), 4, "Cos", -16, -16, 16, 16},
		{span(dy(-3, 0), dy(1, 10)), 30, "Sin", -1073741824, -1073741824, 1073741824, 1073741824},
	} {
		got, err := named(c.name).of(c.a, c.w)
		lo, hi, ok := units(got, c.w)
		isLo := func() bool { return c.loFrom <= lo.Int64() && lo.Int64() <= c.loTo }
		isHi := func() bool { return c.hiFrom <= hi.Int64() && hi.Int64() <= c.hiTo }
		if err != api.OK || !ok || !isLo() || !isHi() {
			t.Errorf("%s(%s, %d) = %s, error %d", c.name, shortSpan(c.a), c.w, shortSpan(got), err)
		}
	}
}

// The chapter's examples, at all precisions.
func TestExamples(t *testing.T) {
	for w := 0; w <= api.MaxWork; w += 1 + w/20 {
		if got, err := circular.Cos(span(dy(-1, 0), dy(1, 0)), w); err != api.OK || !same(got.Hi, dy(1, 0)) {
			t.Errorf("Cos((-1, 1), %d) = %s, error %d, want 1 as Hi", w, shortSpan(got), err)
		}
		if got, err := circular.Sin(span(dy(0, 0), dy(7, 0)), w); err != api.OK || !identical(got, span(dy(-1, 0), dy(1, 0))) {
			t.Errorf("Sin((0, 7), %d) = %s, error %d, want from -1 to 1", w, shortSpan(got), err)
		}
	}
}

// checkDecimal checks that the result of the function for d is about a decimal, the last digit of which may be off by one.
func (f function) checkDecimal(t *testing.T, d api.Dyadic, text string) {
	t.Helper()
	// A unit of the last digit is greater than 2^27 units of 2^-w.
	const w = 360
	digits, scale := withoutPoint(text)
	got, err := f.of(point(d), w)
	lo, hi, ok := units(got, w)
	if err != api.OK || !ok {
		t.Errorf("%s(%s, %d) = %s, error %d", f.name, short(d), w, shortSpan(got), err)
		return
	}
	below, above := plus(digits, -1), plus(digits, 1)
	isLo := new(big.Int).Mul(lo, scale).Cmp(below.Lsh(below, w)) >= 0
	isHi := new(big.Int).Mul(hi, scale).Cmp(above.Lsh(above, w)) <= 0
	if !isLo || !isHi || lo.Cmp(hi) > 0 {
		t.Errorf("%s(%s, %d) = %s, want about %s", f.name, short(d), w, shortSpan(got), text)
	}
}

// Results that are compared with decimals only.
func TestOfDecimals(t *testing.T) {
	for _, c := range decimals() {
		named("Sin").checkDecimal(t, c.d, c.sine)
		named("Cos").checkDecimal(t, c.d, c.cosine)
	}
}

// Every interval of quarters near zero, with up to two turns, at the least precisions.
func TestOfSmallNumbers(t *testing.T) {
	var all []place
	for n := int64(-27); n <= 27; n++ {
		all = append(all, at(dy(n, -2)))
	}
	for w := 0; w <= 6; w += 2 {
		for i := range all {
			for j := i; j < len(all); j++ {
				checkBoth(t, all[i], all[j], w)
			}
		}
	}
}

func TestOfPoints(t *testing.T) {
	for _, w := range precisions() {
		for _, p := range placesOfEnds() {
			checkBoth(t, p, p, w)
		}
	}
}

func TestOfPointsAtGreatPrecisions(t *testing.T) {
	all := placesOfEnds()
	for i, w := range greatPrecisions() {
		for j := i; j < len(all); j += 17 {
			checkBoth(t, all[j], all[j], w)
		}
	}
	for i, p := range every(4, all) {
		functions()[i%2].check(t, p, p, api.MaxWork)
	}
}

func TestOfIntervals(t *testing.T) {
	all := placesOfEnds()
	for _, w := range []int{0, 1, 3, 64} {
		for i := range all {
			for j := i + 1; j < len(all); j += 5 + i%5 {
				functions()[j%2].check(t, all[i], all[j], w)
			}
		}
	}
}

// Intervals that end next to each other among the numbers that the tests use.
func TestOfNarrowIntervals(t *testing.T) {
	all := placesOfEnds()
	for i := range all {
		for j := i + 1; j < min(i+5, len(all)); j++ {
			for _, w := range []int{0, 1, 3, 64, 400} {
				checkBoth(t, all[i], all[j], w)
			}
		}
	}
}

func TestOfIntervalsAtGreatPrecisions(t *testing.T) {
	all := placesOfEnds()
	for i, w := range greatPrecisions() {
		for j := i; j < len(all); j += 29 {
			k := (j*5 + i) % len(all)
			checkBoth(t, all[min(j, k)], all[max(j, k)], w)
			checkBoth(t, all[j], all[min(j+1+i%3, len(all)-1)], w)
		}
		checkBoth(t, all[0], all[len(all)-1], w)
	}
}

// Intervals with zero as an end, and on both sides of it.
func TestAroundZero(t *testing.T) {
	zero := at(api.Dyadic{})
	for _, p := range placesOfEnds() {
		if mantissa(p.d).Sign() <= 0 {
			continue
		}
		for _, w := range []int{0, 1, 3, 64, 400} {
			checkBoth(t, zero, p, w)
			checkBoth(t, mirror(p), zero, w)
			checkBoth(t, mirror(p), p, w)
		}
	}
}

// besideTurns returns the two neighbours of a number of quarter turns among the numbers that a small interval may end at.
func besideTurns(n int64) [2]place {
	if n == 0 {
		return [2]place{at(opposite(least())), at(least())}
	}
	d := below(4 * n)
	return [2]place{at(d), at(beside(d, 1))}
}

// Intervals that end just below or above two numbers of quarter turns, up to one whole turn and a quarter apart: whether they contain these numbers tells what the image is.
func TestBetweenQuarterTurns(t *testing.T) {
	for _, n := range []int64{-6, -4, -1, 0, 1, 2, 1003, lastTurn - 5, -lastTurn} {
		var all [][2]place
		for more := int64(0); more <= 5; more++ {
			all = append(all, besideTurns(n+more))
		}
		inner := at(below(4*n + 1))
		for i, from := range all {
			for j := i; j < len(all); j++ {
				for side := range 4 {
					first, last := from[side/2], all[j][side%2]
					if i == j && side == 2 {
						first = last
					}
					for _, w := range []int{0, 3, 64} {
						checkBoth(t, first, last, w)
					}
				}
			}
			if i > 0 {
				checkBoth(t, inner, from[0], 12)
				checkBoth(t, inner, from[1], 12)
			}
		}
		checkBoth(t, all[0][0], all[4][0], api.MaxWork)
		checkBoth(t, all[1][1], all[2][0], api.MaxWork)
	}
}

// Intervals about as wide as a whole turn: those that are wider contain a place of each value.
func TestWideIntervals(t *testing.T) {
	for _, lo := range []api.Dyadic{{}, dy(1, 0), dy(-5, 0), dy(7, -2), dy(1001, -3), dy(-1, 31), opposite(greatest()), least(), below(4), beside(below(12), 1), beside(below(-4), 1)} {
		from := at(lo)
		man, _ := scaled(lo, finest)
		for _, eighths := range []int64{8, 12, 15, 16, 17, 20, 40, 1 << 20} {
			width, _ := scaled(below(eighths), finest)
			hi := wide(new(big.Int).Add(man, width), -finest)
			for _, d := range []api.Dyadic{hi, beside(hi, 1)} {
				for _, w := range []int{0, 3, 64, 500} {
					checkBoth(t, from, at(d), w)
				}
			}
		}
	}
}

// Numbers that are next to a number of quarter turns at all distances, on both sides.
func TestNextToQuarterTurns(t *testing.T) {
	for distance := 1; distance < finest; distance += 1 + distance/5 {
		for _, n := range []int64{1, -2, 3, lastTurn - 2} {
			middle, _ := scaled(below(4*n), finest)
			lo := at(wide(new(big.Int).Sub(middle, power(finest-distance)), -finest))
			hi := at(wide(new(big.Int).Add(middle, power(finest-distance)), -finest))
			for _, w := range []int{0, 3, 64, min(distance, api.MaxWork/4)} {
				checkBoth(t, lo, lo, w)
				checkBoth(t, hi, hi, w)
				checkBoth(t, lo, hi, w)
			}
		}
	}
}

// Powers of two and the numbers next to them.
func TestOfPowersOfTwo(t *testing.T) {
	for exp := -finest; exp <= api.MaxTurn; exp += 1 + max(exp, -exp)/8 {
		two := dy(1, exp)
		for _, d := range []api.Dyadic{two, opposite(two), beside(two, 1), beside(two, -1), dy(3, exp-1)} {
			if d.Exp < -finest || !isTurnable(d) {
				continue
			}
			p := at(d)
			for _, w := range []int{0, 1, 3, 64, 200, min(max(exp, -exp), api.MaxWork/4)} {
				checkBoth(t, p, p, w)
			}
		}
	}
}

func TestAtAllPrecisions(t *testing.T) {
	all := places([]api.Dyadic{beside(opposite(greatest()), 1), dy(-3, 0), dy(-1, -30), dy(5, -4), dy(1, 0), dy(7, -2), dy(355, 0), wide(outer(finest+20), -finest), greatest()})
	for w := 0; w <= api.MaxWork; w += 1 + w/12 {
		for i, p := range all {
			functions()[(i+w)%2].check(t, p, p, w)
		}
		for i, p := range all[1:] {
			functions()[(i+w)%2].check(t, all[i], p, w)
		}
	}
}

// arcsine returns the angle from 0 to about 1.43 with the sine n * 2^-w, which is at most 0.99, in units of 2^-known. It is off by fewer than 2^10 of them.
func arcsine(n *big.Int, w int) *big.Int {
	sine := new(big.Int).Lsh(n, uint(known+guard-w))
	first, _ := new(big.Float).SetMantExp(new(big.Float).SetInt(n), -w).Float64()
	rough, _ := new(big.Float).SetMantExp(big.NewFloat(math.Asin(first)), 60).Int(nil)
	x := rough.Lsh(rough, known-60)
	// By Newton's iteration, the number of digits that are right is doubled each time.
	for digits := 40; digits < 2*known; digits *= 2 {
		angle := new(big.Int).Lsh(x, guard-halvings)
		c, s := circle(angle)
		step := new(big.Int).Sub(sine, s)
		step.Quo(step.Lsh(step, known), c)
		x.Add(x, step)
	}
	return x
}

// besides returns multiples of 2^-w from 0 to 0.99, as numbers of units.
func besides(w int) []*big.Int {
	all := []*big.Int{new(big.Int)}
	if w > 0 {
		all = append(all, power(w-1))
	}
	if w > 10 {
		all = append(all, big.NewInt(1), plus(power(w-1), 1), times(power(w-4), 15), times(power(w-3), 3), plus(times(power(w-10), 1013), 3))
	}
	return all
}

// Values that are closer to the grid than any that is found with some thousand digits: on which side of it they lie is not seen, so an error that is not allowed for would put them outside of the interval.
func TestBesideTheGrid(t *testing.T) {
	ahead := []int64{0, 1, 2, 3, 1 << 20, -1, -2, 1<<31 + 1, -lastTurn + 1}
	for _, w := range []int{0, 1, 3, 12, 64, 999, 2500, api.MaxWork} {
		for i, n := range besides(w) {
			angle := arcsine(n, w)
			for _, turns := range every(1+w/600, ahead[i%4:]) {
				more := new(big.Int).Rsh(times(rightAngle(), turns), guard)
				for _, x := range []*big.Int{angle, negative(angle)} {
					sum := new(big.Int).Add(more, x)
					d := wide(sum.Rsh(sum, known-finest), -finest)
					lo, hi := at(d), at(beside(d, 1))
					// Where the number of quarter turns is even, the sine is next to the grid, and the cosine otherwise.
					f := functions()[turns&1]
					f.check(t, lo, lo, w)
					f.check(t, hi, hi, w)
					f.check(t, lo, hi, w)
				}
			}
		}
	}
}

func TestErrors(t *testing.T) {
	all := ends()
	last := len(all) - 1
	for i, lo := range all {
		for _, w := range outside() {
			for _, hi := range []api.Dyadic{lo, all[(i+last)/2], all[last]} {
				checkError(t, span(lo, hi), w, api.ErrArg)
			}
		}
	}
}

// Either end may be too large, or both; a precision that is not permitted comes first.
func TestNumbersThatAreTooLarge(t *testing.T) {
	ws := slices.Concat(precisions(), greatPrecisions())
	for i, large := range tooLarge() {
		all := []api.Interval{point(large), span(opposite(large), large), span(large, tooLarge()[len(tooLarge())-1])}
		for _, d := range every(6, ends()) {
			all = append(all, span(d, large), span(opposite(large), d))
		}
		for _, a := range all {
			for _, b := range []api.Interval{a, mirrored(a)} {
				for _, w := range every(4, ws[i%4:]) {
					checkError(t, b, w, api.ErrLarge)
				}
				for _, w := range outside() {
					checkError(t, b, w, api.ErrArg)
				}
			}
		}
	}
}

// Consequences

// The sum of the squares of both contains 1, for points and for intervals.
func TestSumOfSquares(t *testing.T) {
	square := func(a api.Interval, w int) api.Interval {
		product, _ := arith.Mul(a, a, w)
		return product
	}
	checkSum := func(a api.Interval, w int) {
		sine, _ := circular.Sin(a, w)
		cosine, _ := circular.Cos(a, w)
		sum, err := arith.Add(square(sine, w), square(cosine, w), w)
		if err != api.OK || compare(sum.Lo, dy(1, 0)) > 0 || compare(sum.Hi, dy(1, 0)) < 0 {
			t.Errorf("the sum of the squares for %s at %d is %s", shortSpan(a), w, shortSpan(sum))
		}
	}
	all := ends()
	for i, lo := range all {
		for _, w := range []int{0, 3, 64, 500} {
			checkSum(point(lo), w)
			checkSum(span(lo, all[(i*3+len(all))/4]), w)
			checkSum(span(lo, all[min(i+1, len(all)-1)]), w)
		}
	}
	for _, d := range every(30, all) {
		checkSum(point(d), api.MaxWork)
	}
}
