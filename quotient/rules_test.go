package quotient_test

import (
	"slices"
	"testing"

	"exactreal/quotient"
)

// call runs a function of the package with those of its arguments that it needs, and returns the lists that result.
type call func(lists [][]uint32) [][]uint32

func calls() map[string]call {
	return map[string]call{
		"DivMod":             func(lists [][]uint32) [][]uint32 { return divMod(lists[0], lists[1]) },
		"DivMod of one list": func(lists [][]uint32) [][]uint32 { return divMod(lists[0], lists[0]) },
		"Small": func(lists [][]uint32) [][]uint32 {
			q, r, ok := quotient.Small(lists[0], uint32(len(lists[1])))
			return [][]uint32{q, {r}, number(ok)}
		},
		"Exact": func(lists [][]uint32) [][]uint32 {
			q, ok := quotient.Exact(lists[0], lists[1])
			return [][]uint32{q, number(ok)}
		},
		"Divides":            func(lists [][]uint32) [][]uint32 { return [][]uint32{number(quotient.Divides(lists[0], lists[1]))} },
		"Powmod":             func(lists [][]uint32) [][]uint32 { return powmod(lists[0], lists[1], lists[2]) },
		"Powmod of one list": func(lists [][]uint32) [][]uint32 { return powmod(lists[0], lists[0], lists[0]) },
	}
}

func divMod(a, b []uint32) [][]uint32 {
	q, r, ok := quotient.DivMod(a, b)
	return [][]uint32{q, r, number(ok)}
}

func powmod(a, n, m []uint32) [][]uint32 {
	power, ok := quotient.Powmod(a, n, m)
	return [][]uint32{power, number(ok)}
}

// number makes a list of a result that is none.
func number(ok bool) []uint32 {
	if ok {
		return []uint32{1}
	}
	return []uint32{0}
}

// room is what follows the elements of the arguments in their memory.
func room() []uint32 {
	return []uint32{5, 6, 7, 8}
}

// copied returns copies of lists, each with room behind it, to which a function must not append.
func copied(lists [][]uint32) [][]uint32 {
	copies := make([][]uint32, len(lists))
	for i, list := range lists {
		copies[i] = slices.Concat(list, room())[:len(list)]
	}
	return copies
}

// unchanged reports whether lists are copies as they were made, with their room.
func unchanged(copies, lists [][]uint32) bool {
	return slices.EqualFunc(copies, lists, func(copied, list []uint32) bool {
		return len(copied) == len(list) && slices.Equal(copied[:len(copied)+len(room())], slices.Concat(list, room()))
	})
}

// equal reports whether two calls have equal results.
func equal(a, b [][]uint32) bool {
	return slices.EqualFunc(a, b, slices.Equal)
}

// overwrite changes all the memory that lists reach.
func overwrite(lists ...[]uint32) {
	for _, list := range lists {
		all := list[:cap(list)]
		for i := range all {
			all[i] = ^all[i]
		}
	}
}

// checkMemory checks rules R2 and R5: arguments stay as they are, results share no memory with them or with each other, and equal calls have equal results.
func checkMemory(t *testing.T, name string, f call, lists [][]uint32) {
	t.Helper()
	copies := copied(lists)
	first, second := f(copies), f(copies)
	if !equal(first, second) {
		t.Errorf("%s%v: %v, then %v", name, lists, first, second)
	}
	kept := copied(second)
	for i, list := range first {
		overwrite(list)
		if !equal(first[i+1:], kept[i+1:]) {
			t.Errorf("%s%v: results share memory", name, lists)
		}
	}
	if !unchanged(copies, lists) {
		t.Errorf("%s%v changes an argument or shares memory with it", name, lists)
	}
	overwrite(copies...)
	if !equal(second, kept) {
		t.Errorf("%s%v: results share memory with each other or with an argument", name, lists)
	}
}

func TestMemory(t *testing.T) {
	all := samples()
	for name, f := range calls() {
		for i, a := range all {
			for j, b := range all {
				checkMemory(t, name, f, [][]uint32{a, b, all[(2*i+j)%len(all)]})
			}
		}
	}
}

// For lists that are no naturals, nothing but R1 (an end, and no panic), R2 and R5 holds.
func TestUnspecifiedArguments(t *testing.T) {
	lists := [][]uint32{nil, {0}, {1}, {2}, {0, 0, 0}, {7, 0}, {5, 1, 0}, {top, 0, 0}, {0, top, 0}, {0, 0, 1, 0}, {top, top}}
	for name, f := range calls() {
		for _, a := range lists {
			for _, b := range lists {
				for _, c := range lists {
					checkMemory(t, name, f, [][]uint32{a, b, c})
				}
			}
		}
	}
}
