package logarithm_test

import (
	"math/big"
	"slices"
	"testing"

	"exactreal/api"
	"exactreal/logarithm"
)

// P15.2

// isSplit reports whether k and m are what Split promises for d.
func isSplit(d api.Dyadic, k int, m api.Dyadic) bool {
	if !isValid(m) || m.Exp > 0 {
		return false
	}
	// Both have an odd mantissa, so m * 2^k is d if the mantissas are equal, and the exponents with k.
	isProduct := mantissa(m).Cmp(mantissa(d)) == 0 && m.Exp+k == d.Exp
	one := power(-m.Exp)
	isNotLess := times(mantissa(m), 4).Cmp(times(one, 3)) >= 0
	isLess := times(mantissa(m), 2).Cmp(times(one, 3)) < 0
	return isProduct && isNotLess && isLess
}

// checkSplit checks what Split promises for a valid positive d.
func checkSplit(t *testing.T, d api.Dyadic) {
	t.Helper()
	k, m, err := logarithm.Split(d)
	if err != api.OK || !isSplit(d, k, m) {
		t.Errorf("Split(%s) = %d, %s, error %d", short(d), k, short(m), err)
	}
}

// checkSplitError checks that Split returns ErrDomain and nothing besides.
func checkSplitError(t *testing.T, d api.Dyadic) {
	t.Helper()
	if k, m, err := logarithm.Split(d); err != api.ErrDomain || k != 0 || !same(m, api.Dyadic{}) {
		t.Errorf("Split(%s) = %d, %s, error %d", short(d), k, short(m), err)
	}
}

func TestSplitWrittenOut(t *testing.T) {
	for _, c := range []struct {
		d api.Dyadic
		k int
		m api.Dyadic
	}{
		{dy(3, 0), 2, dy(3, -2)},
		{dy(4, 0), 2, dy(1, 0)},
		{dy(1, 0), 0, dy(1, 0)},
		{dy(2, 0), 1, dy(1, 0)},
		{dy(1, -1), -1, dy(1, 0)},
		{dy(3, -2), 0, dy(3, -2)},
		{dy(3, -1), 1, dy(3, -2)},
		{dy(5, 0), 2, dy(5, -2)},
		{dy(7, 0), 3, dy(7, -3)},
		{dy(11, 0), 3, dy(11, -3)},
		{dy(13, 0), 4, dy(13, -4)},
		{dy(5, -3), -1, dy(5, -2)},
		{dy(7, -3), 0, dy(7, -3)},
		{dy(9, -3), 0, dy(9, -3)},
		{dy(11, -3), 0, dy(11, -3)},
		{dy(13, -3), 1, dy(13, -4)},
		{dy(125, 3), 10, dy(125, -7)},
		{dy(1, api.MaxExponent), api.MaxExponent, dy(1, 0)},
		{dy(1, -api.MaxExponent), -api.MaxExponent, dy(1, 0)},
		{dy(3, api.MaxExponent), api.MaxExponent + 2, dy(3, -2)},
	} {
		if k, m, err := logarithm.Split(c.d); k != c.k || !same(m, c.m) || err != api.OK {
			t.Errorf("Split(%s) = %d, %s, error %d, want %d, %s", short(c.d), k, short(m), err, c.k, short(c.m))
		}
	}
}

func TestSplitOfSmallNumbers(t *testing.T) {
	for n := int64(1); n <= 3000; n++ {
		for _, exp := range []int{0, -1, 1, -12, 12, -32, 32, 1000, -1000} {
			checkSplit(t, dy(n, exp))
		}
	}
}

func TestSplitOfPowersOfTwo(t *testing.T) {
	for exp := -api.MaxExponent; exp <= api.MaxExponent; exp += 1 + max(exp, -exp)/300 {
		for _, n := range []int64{1, 3, 5, 7} {
			checkSplit(t, dy(n, exp))
		}
	}
}

func TestSplitOfEnds(t *testing.T) {
	for _, d := range ends() {
		checkSplit(t, d)
		for _, n := range []int{1, -1, 31, -32, 100, -1000, api.MaxExponent / 2, -api.MaxExponent / 2} {
			checkSplit(t, shifted(d, n))
		}
	}
}

// The numbers next to 1, 3/4 and 3/2, at all distances and with all kinds of exponents: the second one begins the range of m, and the third one ends it.
func TestSplitNextToTheLimits(t *testing.T) {
	for places := 2; places < api.MaxBits; places += 1 + places/20 {
		for _, quarters := range []int{3, 4, 6} {
			limit := times(power(places-2), quarters)
			for _, n := range []int64{-1, 0, 1} {
				man := plus(limit, n)
				for _, exp := range []int{-places, 0, 1, max(1-2*places, -api.MaxExponent), api.MaxExponent - places, -api.MaxExponent} {
					checkSplit(t, wide(man, exp))
				}
			}
		}
	}
}

// manyWords returns mantissas of many words, some of them the greatest that are valid.
func manyWords() []*big.Int {
	var all []*big.Int
	for _, bits := range []int{32, 33, 63, 64, 65, 1000, 4097, 10240, api.MaxBits - 33, api.MaxBits - 32, api.MaxBits - 1, api.MaxBits} {
		limit := times(power(bits-2), 3)
		all = append(all, ones(bits), outer(bits), plus(limit, 1), plus(limit, -1), new(big.Int).SetBit(outer(bits), bits-2, 1))
		random := new(big.Int).Exp(big.NewInt(3), big.NewInt(int64(bits)), power(bits))
		all = append(all, random)
	}
	return all
}

func TestSplitOfManyWords(t *testing.T) {
	for _, man := range manyWords() {
		bits := man.BitLen()
		for _, exp := range []int{0, -bits, 1 - bits, 2 - bits, 5, -5, api.MaxExponent, api.MaxExponent - 1, -api.MaxExponent, 1 - api.MaxExponent, api.MaxExponent - bits, bits - api.MaxExponent} {
			checkSplit(t, wide(man, exp))
		}
	}
}

func TestSplitErrors(t *testing.T) {
	checkSplitError(t, api.Dyadic{})
	for _, d := range slices.Concat(ends(), notPositive()) {
		if d.Man.Neg {
			checkSplitError(t, d)
		} else {
			checkSplitError(t, opposite(d))
		}
	}
	for _, man := range append(manyWords(), big.NewInt(1), big.NewInt(3)) {
		for _, exp := range []int{0, 1, -1, -man.BitLen(), api.MaxExponent, -api.MaxExponent} {
			checkSplitError(t, wide(negative(man), exp))
		}
	}
}
