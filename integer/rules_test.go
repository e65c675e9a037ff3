package integer_test

import (
	"math"
	"slices"
	"testing"

	"exactreal/api"
	"exactreal/integer"
)

// call runs a function of the package with those of its arguments that it needs, and returns its results, as integers all of them.
type call func(x, y api.Int, n int) []api.Int

func calls() map[string]call {
	one := api.Int{Mag: []uint32{1}}
	return map[string]call{
		"Of":                    func(_, _ api.Int, n int) []api.Int { return all(integer.Of(n)) },
		"Nat":                   func(x, _ api.Int, _ int) []api.Int { return all(integer.Nat(x.Neg, x.Mag), integer.Nat(!x.Neg, x.Mag)) },
		"Neg":                   func(x, _ api.Int, _ int) []api.Int { return all(integer.Neg(x)) },
		"Add":                   func(x, y api.Int, _ int) []api.Int { return all(integer.Add(x, y)) },
		"Add of one integer":    func(x, _ api.Int, _ int) []api.Int { return all(integer.Add(x, x)) },
		"Add with 0":            func(x, _ api.Int, _ int) []api.Int { return all(integer.Add(x, api.Int{}), integer.Add(api.Int{}, x)) },
		"Sub":                   func(x, y api.Int, _ int) []api.Int { return all(integer.Sub(x, y)) },
		"Sub of one integer":    func(x, _ api.Int, _ int) []api.Int { return all(integer.Sub(x, x)) },
		"Sub with 0":            func(x, _ api.Int, _ int) []api.Int { return all(integer.Sub(x, api.Int{}), integer.Sub(api.Int{}, x)) },
		"Mul":                   func(x, y api.Int, _ int) []api.Int { return all(integer.Mul(x, y)) },
		"Mul of one integer":    func(x, _ api.Int, _ int) []api.Int { return all(integer.Mul(x, x)) },
		"Mul with 1":            func(x, _ api.Int, _ int) []api.Int { return all(integer.Mul(x, one), integer.Mul(one, x)) },
		"DivMod":                func(x, y api.Int, _ int) []api.Int { return divMod(x, y) },
		"DivMod of one integer": func(x, _ api.Int, _ int) []api.Int { return divMod(x, x) },
		"DivMod by 1":           func(x, _ api.Int, _ int) []api.Int { return divMod(x, one) },
		"Shl":                   func(x, _ api.Int, n int) []api.Int { return all(integer.Shl(x, n)) },
		"Shr":                   func(x, _ api.Int, n int) []api.Int { return all(integer.Shr(x, n)) },
		"without an integer":    inspect,
	}
}

// all returns its arguments, the results of a call, as a list.
func all(results ...api.Int) []api.Int {
	return results
}

func divMod(x, y api.Int) []api.Int {
	q, r, ok := integer.DivMod(x, y)
	return all(q, r, api.Int{Neg: ok})
}

// inspect calls the functions that return no integer.
func inspect(x, y api.Int, _ int) []api.Int {
	value, ok := integer.Int(x)
	numbers := []uint32{uint32(uint64(value) >> 32), uint32(value), uint32(integer.Sign(x)), uint32(integer.Cmp(x, y)), uint32(integer.Cmp(x, x))}
	return all(api.Int{Neg: ok, Mag: numbers}, api.Int{Neg: integer.Valid(x)})
}

// roomy returns a copy of x with room behind its elements, to which a function must not append.
func roomy(x api.Int) api.Int {
	return api.Int{Neg: x.Neg, Mag: slices.Concat(x.Mag, []uint32{5, 6, 7, 8})[:len(x.Mag)]}
}

// same reports whether two integers have the same fields.
func same(x, y api.Int) bool {
	return x.Neg == y.Neg && slices.Equal(x.Mag, y.Mag)
}

// unchanged reports whether a copy of x is as roomy made it, with its room.
func unchanged(copied, x api.Int) bool {
	made := roomy(x)
	whole := len(x.Mag) + 4
	return same(copied, x) && slices.Equal(copied.Mag[:whole], made.Mag[:whole])
}

// overwrite changes all the memory that the elements of x reach.
func overwrite(x api.Int) {
	all := x.Mag[:cap(x.Mag)]
	for i := range all {
		all[i] = ^all[i]
	}
}

// checkMemory checks rules R2 and R5: arguments stay as they are, results share no memory with them or with other results, and equal calls have equal results.
func checkMemory(t *testing.T, name string, f call, x, y api.Int, n int) {
	t.Helper()
	a, b := roomy(x), roomy(y)
	first, second := f(a, b, n), f(a, b, n)
	if !slices.EqualFunc(first, second, same) {
		t.Errorf("%s(%v, %v, %d): %v, then %v", name, x, y, n, first, second)
	}
	var kept []api.Int
	for _, result := range second {
		kept = append(kept, roomy(result))
	}
	for i, result := range first {
		overwrite(result)
		if !slices.EqualFunc(first[i+1:], kept[i+1:], same) {
			t.Errorf("%s(%v, %v, %d): results share memory", name, x, y, n)
		}
	}
	if !unchanged(a, x) || !unchanged(b, y) {
		t.Errorf("%s(%v, %v, %d) changes an argument or shares memory with it", name, x, y, n)
	}
	overwrite(a)
	overwrite(b)
	if !slices.EqualFunc(second, kept, same) {
		t.Errorf("%s(%v, %v, %d): results share memory with an argument or with those of another call", name, x, y, n)
	}
}

// places returns numbers of places, those that shifts are not specified for among them.
func places() []int {
	return []int{math.MinInt, math.MinInt + 1, -api.MaxShift - 1, -api.MaxShift, -65, -64, -33, -32, -31, -1, 0, 1, 31, 32, 33, 64, 95, api.MaxShift, api.MaxShift + 1, 2 * api.MaxShift, math.MaxInt - 31, math.MaxInt - 1, math.MaxInt}
}

func checkAll(t *testing.T, integers []api.Int) {
	t.Helper()
	for name, f := range calls() {
		for _, x := range integers {
			for _, y := range integers {
				checkMemory(t, name, f, x, y, 0)
			}
			if name != "Of" && name != "Shl" && name != "Shr" {
				continue
			}
			for _, n := range places() {
				checkMemory(t, name, f, x, api.Int{}, n)
			}
		}
	}
}

func TestMemory(t *testing.T) {
	checkAll(t, samples())
}

// For integers that are not valid and for places out of range, nothing but R1 (an end, and no panic), R2 and R5 holds.
func TestUnspecifiedArguments(t *testing.T) {
	integers := []api.Int{{}, {Mag: []uint32{7}}, {Neg: true, Mag: []uint32{7}}, {Neg: true, Mag: []uint32{1, 1}}, {Neg: true}, {Neg: true, Mag: []uint32{}}}
	for _, a := range [][]uint32{{0}, {0, 0}, {0, 0, 0}, {7, 0}, {5, 1, 0}, {top, 0, 0}, {0, top, 0}, {0, 0, 1, 0}, {0, 1 << 31, 0, 0}} {
		integers = append(integers, api.Int{Mag: a}, api.Int{Neg: true, Mag: a})
	}
	checkAll(t, integers)
}
