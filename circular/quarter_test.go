package circular_test

import (
	"math/big"
	"slices"
	"testing"

	"exactreal/api"
	"exactreal/circular"
	"exactreal/interval"
)

// P17.2

// leastWork is the least working precision of Quarter.
const leastWork = 12

// contains reports whether an interval with ends in units of 2^-w contains a number with bounds.
func contains(lo, hi *big.Int, w int, found bounds) bool {
	more := uint(known - w)
	return new(big.Int).Lsh(lo, more).Cmp(found.lo) <= 0 && new(big.Int).Lsh(hi, more).Cmp(found.hi) >= 0
}

// without returns the bounds of d without k quarter turns, for fewer than 2^33 of them.
func without(d api.Dyadic, k int) bounds {
	rest, _ := scaled(d, known+guard)
	if k == 0 {
		rest.Rsh(rest, guard)
		return bounds{rest, rest}
	}
	return about(rest.Sub(rest, times(rightAngle(), int64(k))))
}

// isReduced reports whether k and r are a right result of Quarter for d at w.
func isReduced(d api.Dyadic, w, k int, r api.Interval) bool {
	lo, hi, ok := units(r, w)
	if !ok {
		return false
	}
	width := new(big.Int).Sub(hi, lo)
	isNarrow := width.Sign() >= 0 && width.Cmp(big.NewInt(4)) <= 0
	isLow := lo.Cmp(negative(power(w))) >= 0 && hi.Cmp(power(w)) <= 0
	return isNarrow && isLow && contains(lo, hi, w, without(d, k))
}

// checkQuarter checks what Quarter of d at w promises.
func checkQuarter(t *testing.T, d api.Dyadic, w int) {
	t.Helper()
	k, r, err := circular.Quarter(d, w)
	if err != api.OK || !isReduced(d, w, k, r) {
		t.Errorf("Quarter(%s, %d) = %d, %s, error %d", short(d), w, k, shortSpan(r), err)
	}
}

// checkQuarterError checks that Quarter returns ErrArg and nothing besides.
func checkQuarterError(t *testing.T, d api.Dyadic, w int) {
	t.Helper()
	k, r, err := circular.Quarter(d, w)
	if err != api.ErrArg || k != 0 || !identical(r, api.Interval{}) {
		t.Errorf("Quarter(%s, %d) = %d, %s, error %d, want error %d", short(d), w, k, shortSpan(r), err, api.ErrArg)
	}
}

// quarterPrecisions returns working precisions of Quarter, the least and the greatest ones among them.
func quarterPrecisions() []int {
	return []int{leastWork, leastWork + 1, 20, 31, 32, 33, 64, 100, 1000, api.MaxWork - 1, api.MaxWork}
}

func TestQuarterOfZero(t *testing.T) {
	for w := leastWork; w <= api.MaxWork; w += 1 + w/30 {
		checkQuarter(t, api.Dyadic{}, w)
	}
}

// The number of quarter turns is that which is nearest, unless two are about as near.
func TestQuarterOfIntegers(t *testing.T) {
	for _, c := range []struct {
		d      int64
		turns  int
		digits string
	}{
		{0, 0, "0.00000000000000000000"},
		{1, 1, "-0.57079632679489661923"},
		{-1, -1, "0.57079632679489661923"},
		{2, 1, "0.42920367320510338076"},
		{3, 2, "-0.14159265358979323846"},
		{-3, -2, "0.14159265358979323846"},
		{4, 3, "-0.71238898038468985769"},
		{22, 14, "0.00885142487144733076"},
		{355, 226, "0.00003014435336405372"},
		{1 << 32, lastTurn, "0.48023384192449195850"},
		{-1 << 32, -lastTurn, "-0.48023384192449195850"},
	} {
		k, r, err := circular.Quarter(dy(c.d, 0), 40)
		lo, hi, ok := units(r, 40)
		digits, scale := withoutPoint(c.digits)
		below, above := plus(digits, -1), plus(digits, 1)
		isLo := func() bool { return new(big.Int).Mul(lo, scale).Cmp(above.Lsh(above, 40)) <= 0 }
		isHi := func() bool { return new(big.Int).Mul(hi, scale).Cmp(below.Lsh(below, 40)) >= 0 }
		if err != api.OK || !ok || k != c.turns || !isLo() || !isHi() || new(big.Int).Sub(hi, lo).Cmp(big.NewInt(4)) > 0 {
			t.Errorf("Quarter(%d, 40) = %d, %s, error %d, want %d, about %s", c.d, k, shortSpan(r), err, c.turns, c.digits)
		}
	}
}

func TestQuarter(t *testing.T) {
	for i, w := range quarterPrecisions() {
		for _, d := range every(1+w/800, ends()[i%2:]) {
			checkQuarter(t, d, w)
		}
	}
}

// Every multiple of 1/8 up to some turns.
func TestQuarterOfSmallNumbers(t *testing.T) {
	for eighths := int64(-300); eighths <= 300; eighths++ {
		for w := leastWork; w < leastWork+4; w++ {
			checkQuarter(t, dy(eighths, -3), w)
		}
	}
}

func TestQuarterAtAllPrecisions(t *testing.T) {
	for w := leastWork; w <= api.MaxWork; w += 1 + w/30 {
		for _, d := range []api.Dyadic{dy(1, 0), dy(-1, -1), greatest(), opposite(greatest()), beside(dy(-700, 0), 1), wide(outer(finest+30), -finest)} {
			checkQuarter(t, d, w)
		}
	}
}

// Numbers that are closer to a sum of a multiple of pi / 4 and a multiple of 2^-w than any that is found with some thousand digits: the rest is next to zero or the grid, or is about as great with one quarter turn more.
func TestQuarterBesideMultiples(t *testing.T) {
	for _, w := range []int{leastWork, leastWork + 1, 64, 1000, api.MaxWork} {
		for _, eighths := range []int64{0, 2, -2, 4, -4, 6, -6, 8, 14, -202, 1000, 1 << 32, 4*lastTurn - 10, 4*lastTurn - 2, 4 * lastTurn, -4*lastTurn + 2, -4 * lastTurn} {
			man, _ := scaled(below(eighths), finest)
			for _, units := range []int64{0, 1, -1, 300} {
				d := wide(new(big.Int).Add(man, new(big.Int).Lsh(big.NewInt(units), uint(finest-w))), -finest)
				checkQuarter(t, d, w)
				checkQuarter(t, beside(d, 1), w)
			}
		}
	}
}

func TestQuarterAtTheLimit(t *testing.T) {
	for _, w := range quarterPrecisions() {
		for _, d := range []api.Dyadic{greatest(), beside(greatest(), -1), dy(top, 0), dy(1<<33-1, -1)} {
			checkQuarter(t, d, w)
			checkQuarter(t, opposite(d), w)
		}
		for _, d := range tooLarge() {
			checkQuarterError(t, d, w)
			checkQuarterError(t, opposite(d), w)
		}
	}
}

func TestQuarterAtPrecisionsOutside(t *testing.T) {
	ws := outside()
	for w := range leastWork {
		ws = append(ws, w)
	}
	for _, w := range ws {
		for _, d := range slices.Concat(every(5, ends()), tooLarge()) {
			checkQuarterError(t, d, w)
		}
	}
}

// The results of Quarter, Sin and Cos belong together: the sine is one of both functions of the rest, or the opposite.
func TestQuarterAgreesWithSin(t *testing.T) {
	const w = 200
	for _, d := range ends() {
		k, r, _ := circular.Quarter(d, w)
		sine, _ := circular.Sin(point(d), w)
		ofRest, err := functions()[k&1].of(r, w)
		if k&2 != 0 {
			ofRest = mirrored(ofRest)
		}
		if _, meets := interval.Meet(ofRest, sine); err != api.OK || !meets {
			t.Errorf("Quarter(%s, %d) = %d, %s: the sine of it is not that of the argument, %s", short(d), w, k, shortSpan(r), shortSpan(sine))
		}
	}
}
