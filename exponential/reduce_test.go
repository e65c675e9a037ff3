package exponential_test

import (
	"math/big"
	"slices"
	"testing"

	"exactreal/api"
	"exactreal/exponential"
)

// P14.2

const (
	// leastWork is the least working precision of Reduce.
	leastWork = 12
	// known is the precision to which the tests know the logarithm of 2.
	known = finest + spare
)

// ln2 returns the greatest integer that is not greater than ln 2 * 2^known.
func ln2() *big.Int {
	return logarithm(big.NewInt(2), big.NewInt(1), known)
}

// isReduced reports whether k and r are a right result of Reduce for d at w, given the logarithm of 2.
func isReduced(d api.Dyadic, w, k int, r api.Interval, ln2 *big.Int) bool {
	lo, hi, ok := units(r, w)
	if !ok {
		return false
	}
	width := new(big.Int).Sub(hi, lo)
	half := power(w - 1)
	isNarrow := width.Sign() >= 0 && width.Cmp(big.NewInt(4)) <= 0
	isLow := lo.Cmp(negative(half)) >= 0 && hi.Cmp(half) <= 0
	rest, _ := scaled(d, known)
	// The rest of d lies between these two numbers, or is both of them.
	one, other := new(big.Int).Sub(rest, times(ln2, k)), new(big.Int).Sub(rest, times(plus(ln2, 1), k))
	for _, end := range []*big.Int{one, other} {
		isNotLess := new(big.Int).Lsh(lo, uint(known-w)).Cmp(end) <= 0
		isNotGreater := new(big.Int).Lsh(hi, uint(known-w)).Cmp(end) >= 0
		if !isNotLess || !isNotGreater {
			return false
		}
	}
	return isNarrow && isLow
}

// checkReduce checks what Reduce of d at w promises.
func checkReduce(t *testing.T, d api.Dyadic, w int, ln2 *big.Int) {
	t.Helper()
	k, r, err := exponential.Reduce(d, w)
	if err != api.OK || !isReduced(d, w, k, r, ln2) {
		t.Errorf("Reduce(%s, %d) = %d, %s, error %d", short(d), w, k, shortSpan(r), err)
	}
}

// checkReduceError checks that Reduce returns ErrArg and nothing besides.
func checkReduceError(t *testing.T, d api.Dyadic, w int) {
	t.Helper()
	k, r, err := exponential.Reduce(d, w)
	if err != api.ErrArg || k != 0 || !identical(r, api.Interval{}) {
		t.Errorf("Reduce(%s, %d) = %d, %s, error %d, want error %d", short(d), w, k, shortSpan(r), err, api.ErrArg)
	}
}

// reducePrecisions returns working precisions of Reduce, the least and the greatest ones among them.
func reducePrecisions() []int {
	return []int{leastWork, leastWork + 1, 20, 31, 32, 33, 64, 100, 1000, api.MaxWork - 1, api.MaxWork}
}

// reducible returns the arguments of Reduce among the numbers that other tests use.
func reducible() []api.Dyadic {
	var some []api.Dyadic
	for _, d := range ends() {
		if isReducible(d) {
			some = append(some, d)
		}
	}
	return some
}

func isReducible(d api.Dyadic) bool {
	limit := dy(api.MaxArgument, 0)
	return compare(d, limit) <= 0 && compare(opposite(d), limit) <= 0
}

func TestReduceOfZero(t *testing.T) {
	for w := leastWork; w <= api.MaxWork; w += 1 + w/30 {
		k, r, err := exponential.Reduce(api.Dyadic{}, w)
		if err != api.OK || k != 0 || !isReduced(api.Dyadic{}, w, k, r, new(big.Int)) {
			t.Errorf("Reduce(0, %d) = %d, %s, error %d", w, k, shortSpan(r), err)
		}
	}
}

func TestReduce(t *testing.T) {
	n := ln2()
	for _, d := range reducible() {
		for _, w := range reducePrecisions() {
			checkReduce(t, d, w, n)
		}
	}
}

// Every multiple of 1/4 that is an argument.
func TestReduceOfQuarters(t *testing.T) {
	n := ln2()
	for quarters := int64(-4 * api.MaxArgument); quarters <= 4*api.MaxArgument; quarters++ {
		checkReduce(t, dy(quarters, -2), leastWork+int(quarters%4+4), n)
	}
}

func TestReduceAtAllPrecisions(t *testing.T) {
	n := ln2()
	for w := leastWork; w <= api.MaxWork; w += 1 + w/30 {
		for _, d := range []api.Dyadic{dy(1, 0), dy(-1, -1), dy(api.MaxArgument, 0), dy(-api.MaxArgument, 0), beside(dy(-700, 0), 1)} {
			checkReduce(t, d, w, n)
		}
	}
}

// Arguments that are closer to a sum of half a multiple of the logarithm and a multiple of 2^-w than any that is found with some thousand digits: the rest is next to zero or the grid, or is about as great as with another multiple.
func TestReduceBesideMultiples(t *testing.T) {
	n := ln2()
	for _, w := range []int{leastWork, 64, 1000, api.MaxWork} {
		for _, halves := range []int{0, 1, -1, 2, -2, 3, 7, -100, 999, -1442, 2000, 2883, 2884, 2885, -2883, -2884, -2885} {
			for _, units := range []int64{0, 1, -1, 5, 300, -300} {
				man := new(big.Int).Rsh(times(n, halves), uint(known-finest+1))
				man.Add(man, new(big.Int).Lsh(big.NewInt(units), uint(finest-w)))
				for _, d := range []api.Dyadic{wide(man, -finest), wide(plus(man, 1), -finest)} {
					if isReducible(d) {
						checkReduce(t, d, w, n)
					}
				}
			}
		}
	}
}

func TestReduceAtTheLimit(t *testing.T) {
	n := ln2()
	limit := dy(api.MaxArgument, 0)
	for _, w := range reducePrecisions() {
		for _, d := range []api.Dyadic{limit, beside(limit, -1), dy(2*api.MaxArgument-1, -1)} {
			checkReduce(t, d, w, n)
			checkReduce(t, opposite(d), w, n)
		}
		for _, d := range []api.Dyadic{beside(limit, 1), dy(2*api.MaxArgument+1, -1), dy(1001, 0), dy(2000, 0), dy(top, 0), dy(1, 64), dy(1, api.MaxMagnitude-1), wide(ones(api.MaxMagnitude+finest), -finest)} {
			checkReduceError(t, d, w)
			checkReduceError(t, opposite(d), w)
		}
	}
}

func TestReduceAtPrecisionsOutside(t *testing.T) {
	ws := outside()
	for w := range leastWork {
		ws = append(ws, w)
	}
	limit := dy(api.MaxArgument, 0)
	for _, w := range ws {
		for _, d := range slices.Concat(every(5, ends()), []api.Dyadic{{}, limit, beside(limit, 1), opposite(limit), beside(opposite(limit), -1), dy(1, api.MaxMagnitude-1)}) {
			checkReduceError(t, d, w)
		}
	}
}

// The results of Reduce and Exp belong together: e^d is 2^k times the powers of e with the numbers of the rest, which Exp encloses, too.
func TestReduceAgreesWithExp(t *testing.T) {
	const w = 200
	for _, d := range reducible() {
		k, r, _ := exponential.Reduce(d, w)
		rest, _ := exponential.Exp(r, w)
		all, _ := exponential.Exp(point(d), w)
		restLo, restHi, _ := units(rest, w)
		lo, hi, _ := units(all, w)
		up, down := uint(max(k, 0)), uint(max(-k, 0))
		lo, hi = lo.Lsh(lo, down), hi.Lsh(hi, down)
		if restLo.Lsh(restLo, up).Cmp(hi) > 0 || restHi.Lsh(restHi, up).Cmp(lo) < 0 {
			t.Errorf("Reduce(%s, %d) = %d, %s: the power of it is not that of the argument, %s", short(d), w, k, shortSpan(r), shortSpan(all))
		}
	}
}
