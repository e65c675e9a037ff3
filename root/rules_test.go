package root_test

import (
	"slices"
	"testing"

	"exactreal/api"
	"exactreal/root"
)

// call runs a function of the package with those of its arguments that it needs, and returns the lists that result.
type call func(a, b []uint32) [][]uint32

func calls() map[string]call {
	return map[string]call{
		"Sqrt": func(a, b []uint32) [][]uint32 {
			r, rest := root.Sqrt(a)
			return [][]uint32{r, rest}
		},
		"Square": func(a, b []uint32) [][]uint32 {
			r, ok := root.Square(a)
			return [][]uint32{r, number(ok)}
		},
		"Root 1":             func(a, b []uint32) [][]uint32 { return rootOf(a, 1) },
		"Root 2":             func(a, b []uint32) [][]uint32 { return rootOf(a, 2) },
		"Root 3":             func(a, b []uint32) [][]uint32 { return rootOf(a, 3) },
		"Root MaxPower":      func(a, b []uint32) [][]uint32 { return rootOf(a, api.MaxPower) },
		"Root 0":             func(a, b []uint32) [][]uint32 { return rootOf(a, 0) },
		"Gcd":                func(a, b []uint32) [][]uint32 { return [][]uint32{root.Gcd(a, b)} },
		"Gcd of one list":    func(a, b []uint32) [][]uint32 { return [][]uint32{root.Gcd(a, a)} },
		"Gcd with 0":         func(a, b []uint32) [][]uint32 { return [][]uint32{root.Gcd(a, nil)} },
		"Gcd of 0":           func(a, b []uint32) [][]uint32 { return [][]uint32{root.Gcd(nil, a)} },
		"Lowest":             lowest,
		"Lowest of one list": func(a, b []uint32) [][]uint32 { return lowest(a, a) },
		"Lowest with 1":      func(a, b []uint32) [][]uint32 { return lowest(a, []uint32{1}) },
		"Lowest of 1":        func(a, b []uint32) [][]uint32 { return lowest([]uint32{1}, a) },
	}
}

func rootOf(a []uint32, k int) [][]uint32 {
	r, ok := root.Root(a, k)
	return [][]uint32{r, number(ok)}
}

func lowest(a, b []uint32) [][]uint32 {
	x, y, ok := root.Lowest(a, b)
	return [][]uint32{x, y, number(ok)}
}

// number makes a list of a result that is none.
func number(ok bool) []uint32 {
	if ok {
		return []uint32{1}
	}
	return []uint32{0}
}

// roomy returns a copy of a list that has room behind its elements, to which a function must not append.
func roomy(list []uint32) []uint32 {
	return slices.Concat(list, []uint32{5, 6, 7, 8})[:len(list)]
}

// unchanged reports whether a copy is as roomy made it.
func unchanged(copied, list []uint32) bool {
	whole := roomy(list)
	return len(copied) == len(list) && slices.Equal(copied[:len(list)+4], whole[:len(list)+4])
}

// equal reports whether two calls have equal results.
func equal(a, b [][]uint32) bool {
	return slices.EqualFunc(a, b, slices.Equal)
}

// overwrite changes all the memory that lists reach.
func overwrite(lists ...[]uint32) {
	for _, list := range lists {
		all := list[:cap(list)]
		for i := range all {
			all[i] = ^all[i]
		}
	}
}

// checkMemory checks rules R2 and R5: arguments stay as they are, results share no memory with them or with each other, and equal calls have equal results.
func checkMemory(t *testing.T, name string, f call, a, b []uint32) {
	t.Helper()
	x, y := roomy(a), roomy(b)
	first, second := f(x, y), f(x, y)
	if !equal(first, second) {
		t.Errorf("%s(%v, %v): %v, then %v", name, a, b, first, second)
	}
	var kept [][]uint32
	for _, list := range second {
		kept = append(kept, slices.Clone(list))
	}
	for i, list := range first {
		overwrite(list)
		if !equal(first[i+1:], kept[i+1:]) {
			t.Errorf("%s(%v, %v): results share memory", name, a, b)
		}
	}
	if !unchanged(x, a) || !unchanged(y, b) {
		t.Errorf("%s(%v, %v) changes an argument or shares memory with it", name, a, b)
	}
	overwrite(x, y)
	if !equal(second, kept) {
		t.Errorf("%s(%v, %v): results share memory with each other or with an argument", name, a, b)
	}
}

func TestMemory(t *testing.T) {
	for name, f := range calls() {
		for _, a := range samples() {
			for _, b := range samples() {
				checkMemory(t, name, f, a, b)
			}
		}
	}
}

// For lists that are no naturals, nothing but R1 (an end, and no panic), R2 and R5 holds.
func TestUnspecifiedArguments(t *testing.T) {
	lists := [][]uint32{nil, {0}, {1}, {2}, {0, 0}, {0, 0, 0}, {7, 0}, {4, 0, 0}, {5, 1, 0}, {top, 0, 0}, {0, top, 0}, {0, 0, 1, 0}, {top, top}}
	for name, f := range calls() {
		for _, a := range lists {
			for _, b := range lists {
				checkMemory(t, name, f, a, b)
			}
		}
	}
	for _, a := range lists {
		for k := -2; k <= api.MaxPower+2; k++ {
			checkMemory(t, "Root", func(a, b []uint32) [][]uint32 { return rootOf(a, k) }, a, nil)
		}
	}
}
