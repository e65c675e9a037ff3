package product_test

import (
	"math"
	"slices"
	"testing"

	"exactreal/api"
	"exactreal/product"
)

// call runs a function of the package with those of its arguments that it needs.
type call func(terms [][]uint32, n int) []uint32

func calls() map[string]call {
	return map[string]call{
		"Mul":             func(terms [][]uint32, _ int) []uint32 { return product.Mul(terms[0], terms[1]) },
		"Mul of one list": func(terms [][]uint32, _ int) []uint32 { return product.Mul(terms[0], terms[0]) },
		"Square":          func(terms [][]uint32, _ int) []uint32 { return product.Square(terms[0]) },
		"Small":           func(terms [][]uint32, n int) []uint32 { return product.Small(terms[0], uint32(n), uint32(n>>32)) },
		"Power":           func(terms [][]uint32, n int) []uint32 { return product.Power(terms[0], n) },
		"Sum":             func(terms [][]uint32, _ int) []uint32 { return product.Sum(terms...) },
		"Sum of none":     func([][]uint32, int) []uint32 { return product.Sum() },
		"Sum of one":      func(terms [][]uint32, _ int) []uint32 { return product.Sum(terms[0]) },
		"Sum of one list": func(terms [][]uint32, _ int) []uint32 { return product.Sum(terms[0], terms[0]) },
	}
}

// room is what follows the elements of the arguments in their memory.
func room() []uint32 {
	return []uint32{5, 6, 7, 8}
}

// copied returns copies of lists, each with room behind it, to which a function must not append.
func copied(terms [][]uint32) [][]uint32 {
	copies := make([][]uint32, len(terms))
	for i, term := range terms {
		copies[i] = slices.Concat(term, room())[:len(term)]
	}
	return copies
}

// unchanged reports whether lists are copies as they were made, with their room.
func unchanged(copies, terms [][]uint32) bool {
	return slices.EqualFunc(copies, terms, func(copied, term []uint32) bool {
		return len(copied) == len(term) && slices.Equal(copied[:len(copied)+len(room())], slices.Concat(term, room()))
	})
}

// overwrite changes all the memory that a list reaches.
func overwrite(a []uint32) {
	all := a[:cap(a)]
	for i := range all {
		all[i] = ^all[i]
	}
}

// checkMemory checks rules R2 and R5: arguments stay as they are, results share no memory with them or with each other, and equal calls have equal results.
func checkMemory(t *testing.T, name string, f call, terms [][]uint32, n int) {
	t.Helper()
	copies := copied(terms)
	first, second := f(copies, n), f(copies, n)
	kept := slices.Clone(second)
	if !slices.Equal(first, second) {
		t.Errorf("%s%v with %d: %v, then %v", name, terms, n, first, second)
	}
	overwrite(first)
	if !unchanged(copies, terms) {
		t.Errorf("%s%v with %d changes an argument or shares memory with it", name, terms, n)
	}
	for _, list := range copies {
		overwrite(list)
	}
	if !slices.Equal(second, kept) {
		t.Errorf("%s%v with %d: results share memory", name, terms, n)
	}
}

func TestMemory(t *testing.T) {
	all := samples()
	for name, f := range calls() {
		for i := range all {
			terms := [][]uint32{all[i], all[(i+1)%len(all)], all[(i+4)%len(all)]}
			for _, n := range []int{0, 1, 2, 3, 1<<32 + 1, 1 << 32, api.MaxPower} {
				checkMemory(t, name, f, terms, n)
			}
		}
	}
}

// For lists that are no naturals and exponents that are out of range, nothing but R1 (an end, and no panic), R2 and R5 holds.
func TestUnspecifiedArguments(t *testing.T) {
	lists := [][]uint32{nil, {0}, {1}, {2}, {0, 0, 0}, {7, 0}, {top, 0, 0}, {0, top, 0}, {top, top}}
	numbers := []int{math.MinInt, math.MinInt + 1, -1 << 32, -api.MaxPower, -2, -1, 0, 1, 5, api.MaxPower, api.MaxPower + 1, 2 * api.MaxPower, 1000, 1 << 40, math.MaxInt - 1, math.MaxInt}
	for name, f := range calls() {
		for _, a := range lists {
			for _, b := range lists {
				checkMemory(t, name, f, [][]uint32{a, b, a}, 3)
			}
			for _, n := range numbers {
				checkMemory(t, name, f, [][]uint32{a, a, a}, n)
			}
		}
	}
}

// Sum does not change the list of its terms, either, which a caller may pass as it is.
func TestSumKeepsItsTerms(t *testing.T) {
	terms := [][]uint32{{1}, {top}, {top, top}, nil}
	product.Sum(terms[:2]...)
	product.Sum(terms[:0]...)
	product.Sum(terms...)
	if !slices.EqualFunc(terms, [][]uint32{{1}, {top}, {top, top}, nil}, slices.Equal) {
		t.Errorf("the terms have become %v", terms)
	}
}
