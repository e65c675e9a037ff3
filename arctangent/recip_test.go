package arctangent_test

import (
	"math"
	"math/big"
	"slices"
	"testing"

	"exactreal/api"
	"exactreal/arctangent"
	"exactreal/arith"
	"exactreal/constant"
	"exactreal/interval"
)

// P16.2

// most is the greatest number that Recip takes.
const most = 1000000

// isTightAround reports whether an interval is tight at w and contains a number.
func isTightAround(got api.Interval, w int, number bounds) bool {
	lo, hi, ok := units(got, w)
	if !ok {
		return false
	}
	width := new(big.Int).Sub(hi, lo)
	isTight := width.Sign() >= 0 && width.Cmp(big.NewInt(2)) <= 0
	more := uint(known - w)
	return isTight && lo.Lsh(lo, more).Cmp(number.lo) <= 0 && hi.Lsh(hi, more).Cmp(number.hi) >= 0
}

// checkRecip checks that Recip of n at w is tight and contains a number.
func checkRecip(t *testing.T, n, w int, number bounds) {
	t.Helper()
	got, err := arctangent.Recip(n, w)
	if err != api.OK || !isTightAround(got, w, number) {
		t.Errorf("Recip(%d, %d) = %s, error %d: not tight, or without the arctangent", n, w, shortSpan(got), err)
	}
}

// checkRecipError checks that Recip returns ErrArg and nothing besides.
func checkRecipError(t *testing.T, n, w int) {
	t.Helper()
	if got, err := arctangent.Recip(n, w); err != api.ErrArg || !identical(got, api.Interval{}) {
		t.Errorf("Recip(%d, %d) = %s, error %d", n, w, shortSpan(got), err)
	}
}

// recip returns bounds of the arctangent of 1 / n.
func recip(n int) bounds {
	return about(inverse(int64(n)))
}

// Results that are written out: the greatest lower end and the least upper end, one of which may be a unit further away.
func TestRecipWrittenOut(t *testing.T) {
	for _, c := range []struct {
		n, w   int
		lo, hi int64
	}{
		{2, 0, 0, 1},
		{2, 1, 0, 1},
		{2, 10, 474, 475},
		{3, 4, 5, 6},
		{3, 10, 329, 330},
		{5, 10, 202, 203},
		{239, 10, 4, 5},
		{239, 20, 4387, 4388},
		{1024, 10, 0, 1},
		{1024, 20, 1023, 1024},
		{999999, 0, 0, 1},
		{1000000, 19, 0, 1},
		{1000000, 20, 1, 2},
		{1000000, 30, 1073, 1074},
	} {
		got, err := arctangent.Recip(c.n, c.w)
		lo, hi, ok := units(got, c.w)
		isRight := func() bool {
			below, above := c.lo-lo.Int64(), hi.Int64()-c.hi
			return below >= 0 && above >= 0 && below+above <= 1
		}
		if err != api.OK || !ok || !isRight() {
			t.Errorf("Recip(%d, %d) = %s, error %d", c.n, c.w, shortSpan(got), err)
		}
	}
}

// numbers returns numbers that Recip takes, the least and the greatest ones among them.
func numbers() []int {
	return []int{2, 3, 4, 5, 7, 10, 57, 100, 239, 1000, 1023, 1024, 1025, 4801, 1 << 16, 1 << 19, 1<<19 - 1, 1<<19 + 1, 99999, 123456, 999998, 999999, most}
}

func TestRecipAtManyPrecisions(t *testing.T) {
	for _, n := range numbers() {
		number := recip(n)
		for _, w := range slices.Concat(precisions(), greatPrecisions()) {
			checkRecip(t, n, w, number)
		}
	}
}

func TestRecipAtAllPrecisions(t *testing.T) {
	for _, n := range []int{2, 3, 5, 239, 1023, 999999, most} {
		number := recip(n)
		for w := 0; w <= api.MaxWork; w += 1 + w/25 {
			checkRecip(t, n, w, number)
		}
	}
}

func TestRecipOfSmallNumbers(t *testing.T) {
	for n := 2; n <= 1100; n++ {
		number := recip(n)
		for _, w := range []int{0, 1, 3, 12, 64, n % 300} {
			checkRecip(t, n, w, number)
		}
	}
}

func TestRecipOfManyNumbers(t *testing.T) {
	for n := 2; n <= most; n += 1 + n/200 {
		number := recip(n)
		for _, w := range []int{0, 20, 40, 64, n % 500} {
			checkRecip(t, n, w, number)
		}
	}
}

// The arctangents of the reciprocals of powers of two are that close to the grid that it is not seen on which side of it they lie: an error that is not allowed for would put them outside of the interval.
func TestRecipBesideTheGrid(t *testing.T) {
	for k := 1; k <= 19; k++ {
		number := recip(1 << k)
		for w := 0; w <= 100; w++ {
			checkRecip(t, 1<<k, w, number)
		}
	}
}

// What is not permitted is refused, whatever the other argument is.
func TestRecipErrors(t *testing.T) {
	checkRecipError(t, 1, 5)
	refused := []int{1, 0, -1, -2, -5, -most, most + 1, most + 2, 2 * most, 1 << 31, 1 << 32, 1<<32 + 2, 1<<32 + 5, 1 << 53, -1 << 32, 2 - 1<<32, math.MaxInt32, math.MinInt32, math.MaxInt, math.MaxInt - 1, math.MinInt, math.MinInt + 1, math.MinInt + 2}
	for _, n := range refused {
		for _, w := range slices.Concat(precisions(), greatPrecisions(), outside()) {
			checkRecipError(t, n, w)
		}
	}
	for _, n := range numbers() {
		for _, w := range outside() {
			checkRecipError(t, n, w)
		}
	}
}

// Consequences

// The reciprocals of powers of two are dyadics, so Atan finds numbers in common.
func TestRecipAndAtan(t *testing.T) {
	for k := 1; k <= 19; k++ {
		for _, w := range []int{0, 1, 3, 64, 1000} {
			a, err := arctangent.Recip(1<<k, w)
			b, again := arctangent.Atan(point(dy(1, -k)), w)
			if _, meets := interval.Meet(a, b); err != api.OK || again != api.OK || !meets {
				t.Errorf("Recip(2^%d, %d) = %s, but Atan finds %s", k, w, shortSpan(a), shortSpan(b))
			}
		}
	}
}

// multiple is a number of times the arctangent of 1 / n.
type multiple struct{ factor, n int }

// checkPi checks that the sum of multiples has numbers in common with pi.
func checkPi(t *testing.T, w int, multiples ...multiple) {
	t.Helper()
	total := api.Interval{}
	for _, m := range multiples {
		a, _ := arctangent.Recip(m.n, w)
		a, _ = arith.Mul(point(dy(int64(m.factor), 0)), a, w)
		total, _ = arith.Add(total, a, w)
	}
	pi, err := constant.Pi(w)
	if _, meets := interval.Meet(total, pi); err != api.OK || !meets {
		t.Errorf("a sum of arctangents at %d is %s, but pi is in %s", w, shortSpan(total), shortSpan(pi))
	}
}

// Well known sums of arctangents are pi.
func TestRecipAndPi(t *testing.T) {
	for _, w := range slices.Concat(precisions(), greatPrecisions()) {
		checkPi(t, w, multiple{4, 2}, multiple{4, 3})
		checkPi(t, w, multiple{16, 5}, multiple{-4, 239})
		checkPi(t, w, multiple{48, 18}, multiple{32, 57}, multiple{-20, 239})
	}
}

// The results for two precisions have numbers in common.
func TestRecipAtTwoPrecisions(t *testing.T) {
	ws := []int{0, 1, 3, 40, 64, 1000, api.MaxWork}
	for _, n := range numbers() {
		var results []api.Interval
		for _, w := range ws {
			got, _ := arctangent.Recip(n, w)
			for i, other := range results {
				if _, meets := interval.Meet(got, other); !meets {
					t.Errorf("Recip(%d, %d) = %s, and %s at %d", n, w, shortSpan(got), shortSpan(other), ws[i])
				}
			}
			results = append(results, got)
			if !constant.Tight(got, w) {
				t.Errorf("Recip(%d, %d) = %s is not tight", n, w, shortSpan(got))
			}
		}
	}
}
