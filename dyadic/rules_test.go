package dyadic_test

import (
	"math"
	"slices"
	"testing"

	"exactreal/api"
	"exactreal/dyadic"
)

// call runs a function of the package with those of its arguments that it needs, and returns its results as lists, signs and errors among them.
type call func(a, b api.Dyadic) [][]uint32

func calls() map[string]call {
	one := dy(1, 0)
	return map[string]call{
		"Make":                 func(a, b api.Dyadic) [][]uint32 { return made(dyadic.Make(a.Man, b.Exp)) },
		"Make with 0":          func(a, _ api.Dyadic) [][]uint32 { return made(dyadic.Make(a.Man, 0)) },
		"Of":                   func(_, _ api.Dyadic) [][]uint32 { return numbers(dyadic.Of(7), dyadic.Of(0), dyadic.Of(7)) },
		"Rat":                  func(a, _ api.Dyadic) [][]uint32 { return fraction(dyadic.Rat(a)) },
		"Rat of the exponents": func(a, b api.Dyadic) [][]uint32 { return fraction(dyadic.Rat(api.Dyadic{Man: a.Man, Exp: b.Exp})) },
		"From":                 from,
		"Neg":                  func(a, _ api.Dyadic) [][]uint32 { return numbers(dyadic.Neg(a)) },
		"Add":                  func(a, b api.Dyadic) [][]uint32 { return made(dyadic.Add(a, b)) },
		"Add of one dyadic":    func(a, _ api.Dyadic) [][]uint32 { return made(dyadic.Add(a, a)) },
		"Add with 0": func(a, _ api.Dyadic) [][]uint32 {
			return append(made(dyadic.Add(a, api.Dyadic{})), made(dyadic.Add(api.Dyadic{}, a))...)
		},
		"Sub":               func(a, b api.Dyadic) [][]uint32 { return made(dyadic.Sub(a, b)) },
		"Sub of one dyadic": func(a, _ api.Dyadic) [][]uint32 { return made(dyadic.Sub(a, a)) },
		"Sub with 0": func(a, _ api.Dyadic) [][]uint32 {
			return append(made(dyadic.Sub(a, api.Dyadic{})), made(dyadic.Sub(api.Dyadic{}, a))...)
		},
		"Mul":               func(a, b api.Dyadic) [][]uint32 { return made(dyadic.Mul(a, b)) },
		"Mul of one dyadic": func(a, _ api.Dyadic) [][]uint32 { return made(dyadic.Mul(a, a)) },
		"Mul with 1":        func(a, _ api.Dyadic) [][]uint32 { return append(made(dyadic.Mul(a, one)), made(dyadic.Mul(one, a))...) },
		"Shift":             func(a, b api.Dyadic) [][]uint32 { return made(dyadic.Shift(a, b.Exp)) },
		"Shift by 0":        func(a, _ api.Dyadic) [][]uint32 { return made(dyadic.Shift(a, 0)) },
		"Shift by 1":        func(a, _ api.Dyadic) [][]uint32 { return made(dyadic.Shift(a, 1)) },
		"Shift beyond":      func(a, _ api.Dyadic) [][]uint32 { return made(dyadic.Shift(a, math.MinInt)) },
		"no dyadic":         inspect,
		"Parse of Format":   func(a, _ api.Dyadic) [][]uint32 { return made(dyadic.Parse(dyadic.Format(a))) },
	}
}

// flag makes a list of a result that is none.
func flag(set bool) []uint32 {
	if set {
		return []uint32{1}
	}
	return []uint32{0}
}

// whole makes a list of an int.
func whole(n int) []uint32 {
	return []uint32{uint32(n), uint32(uint64(n) >> 32)}
}

// numbers returns the parts of all the results of a call.
func numbers(results ...api.Dyadic) [][]uint32 {
	var lists [][]uint32
	for _, d := range results {
		lists = append(lists, flag(d.Man.Neg), d.Man.Mag, whole(d.Exp))
	}
	return lists
}

func made(d api.Dyadic, err api.Errno) [][]uint32 {
	return append(numbers(d), whole(int(err)))
}

func fraction(x api.Rat) [][]uint32 {
	return [][]uint32{flag(x.Num.Neg), x.Num.Mag, x.Den}
}

// from calls From with the parts of both arguments.
func from(a, b api.Dyadic) [][]uint32 {
	var lists [][]uint32
	for _, den := range [][]uint32{nil, {1}, {4}, a.Man.Mag, b.Man.Mag} {
		d, ok := dyadic.From(api.Rat{Num: a.Man, Den: den})
		lists = append(append(lists, numbers(d)...), flag(ok))
	}
	return lists
}

// inspect calls the functions that return no dyadic.
func inspect(a, b api.Dyadic) [][]uint32 {
	var letters []uint32
	for _, letter := range []byte(dyadic.Format(a)) {
		letters = append(letters, uint32(letter))
	}
	return [][]uint32{flag(dyadic.Valid(a)), whole(dyadic.Sign(a)), whole(dyadic.Cmp(a, b)), whole(dyadic.Cmp(a, a)), whole(dyadic.Top(a)), letters}
}

// withRoom returns a copy of a list with room behind its elements, to which a function must not append.
func withRoom(a []uint32) []uint32 {
	return slices.Concat(a, []uint32{5, 6, 7, 8})[:len(a)]
}

func roomy(d api.Dyadic) api.Dyadic {
	return api.Dyadic{Man: api.Int{Neg: d.Man.Neg, Mag: withRoom(d.Man.Mag)}, Exp: d.Exp}
}

// unchanged reports whether a copy of a dyadic is as roomy made it, with its room.
func unchanged(copied, d api.Dyadic) bool {
	n := len(d.Man.Mag) + 4
	return same(copied, d) && slices.Equal(copied.Man.Mag[:n], withRoom(d.Man.Mag)[:n])
}

// overwrite changes all the memory that lists reach.
func overwrite(lists ...[]uint32) {
	for _, list := range lists {
		all := list[:cap(list)]
		for i := range all {
			all[i] = ^all[i]
		}
	}
}

// equal reports whether two calls have equal results.
func equal(a, b [][]uint32) bool {
	return slices.EqualFunc(a, b, slices.Equal)
}

func cloned(lists [][]uint32) [][]uint32 {
	var all [][]uint32
	for _, list := range lists {
		all = append(all, slices.Clone(list))
	}
	return all
}

// checkShared checks that results share no memory with each other; it overwrites them.
func checkShared(t *testing.T, name string, results [][]uint32, args ...any) {
	t.Helper()
	kept := cloned(results)
	for i, list := range results {
		overwrite(list)
		if !equal(results[i+1:], kept[i+1:]) {
			t.Errorf("%s%v: results share memory", name, args)
		}
	}
}

// checkMemory checks rules R2 and R5: arguments stay as they are, results share no memory with them or with other results, and equal calls have equal results.
func checkMemory(t *testing.T, name string, f call, x, y api.Dyadic) {
	t.Helper()
	a, b := roomy(x), roomy(y)
	first, second := f(a, b), f(a, b)
	if !equal(first, second) {
		t.Errorf("%s(%s, %s): different results", name, short(x), short(y))
	}
	kept := cloned(second)
	checkShared(t, name, first, short(x), short(y))
	if !unchanged(a, x) || !unchanged(b, y) {
		t.Errorf("%s(%s, %s) changes an argument or shares memory with it", name, short(x), short(y))
	}
	overwrite(a.Man.Mag, b.Man.Mag)
	if !equal(second, kept) {
		t.Errorf("%s(%s, %s): results share memory with an argument or with those of another call", name, short(x), short(y))
	}
}

func TestMemory(t *testing.T) {
	longest := wide(ones(api.MaxBits), lowest)
	for name, f := range calls() {
		for i, a := range samples() {
			for j, b := range samples() {
				if (i+j)%499 == 0 {
					checkMemory(t, name, f, a, b)
				}
			}
			checkMemory(t, name, f, a, a)
		}
		for _, d := range []api.Dyadic{{}, dy(1, 0), dy(-3, highest), longest} {
			checkMemory(t, name, f, longest, d)
		}
	}
}

// For dyadics and integers that are not valid, and for lists that are no naturals, nothing but R1 (an end, and no panic), R2 and R5 holds.
func TestUnspecifiedArguments(t *testing.T) {
	var all []api.Dyadic
	for _, mag := range [][]uint32{nil, {}, {0}, {0, 0}, {1}, {4}, {7, 0}, {0, 6, 0, 0}, {top, top}} {
		for _, exp := range []int{0, 1, -1, highest + 1, lowest - 1, 2 * highest, 2*lowest - 1, api.MaxShift, api.MaxShift + 1, -api.MaxShift - 1, math.MaxInt32, math.MinInt32, math.MaxInt, math.MaxInt - 1, math.MinInt, math.MinInt + 1} {
			all = append(all, api.Dyadic{Man: api.Int{Mag: mag}, Exp: exp}, api.Dyadic{Man: api.Int{Neg: true, Mag: mag}, Exp: exp})
		}
	}
	for name, f := range calls() {
		for i, a := range all {
			for j, b := range all {
				if (i+j)%29 == 0 || i == j {
					checkMemory(t, name, f, a, b)
				}
			}
		}
	}
}

// A result with an error, or with false, is zero in all its parts (R4), for arguments that are not valid, too, as far as there is an error.
func TestRefusedResultsAreZero(t *testing.T) {
	for _, exp := range []int{highest, lowest, math.MaxInt, math.MinInt} {
		for _, mag := range [][]uint32{{3}, {4}, {top, top}, elements(ones(api.MaxBits + 1))} {
			d := api.Dyadic{Man: api.Int{Neg: true, Mag: mag}, Exp: exp}
			for name, f := range calls() {
				if name != "Add" && name != "Sub" && name != "Mul" && name != "Shift" && name != "Make" {
					continue
				}
				results := f(d, d)
				if err := results[3][0]; err != 0 && !equal(results[:3], numbers(api.Dyadic{})) {
					t.Errorf("%s of %s has a result with error %d", name, short(d), err)
				}
			}
		}
	}
}

// Whatever the bytes and the length of a text, Parse ends (R1), its results share no memory (R2), and only those without an error are not zero (R4).
func FuzzParse(f *testing.F) {
	for _, text := range []string{"", "0p0", "3p1", "-3p-1", "6p0", "0p1", "3p1p1", "-0p0", "007p0", "1p65536", "1p65537", "1p99999999999999999999", "12345678901234567890123456789p-40", "1\x80p0"} {
		f.Add(text)
	}
	expression := texts()
	f.Fuzz(func(t *testing.T, text string) {
		checkAnyText(t, text, expression)
		d, err := dyadic.Parse(text)
		again, sameErr := dyadic.Parse(text)
		if err != sameErr || !same(d, again) {
			t.Errorf("Parse(%q): %s, then %s", text, short(d), short(again))
		}
		checkShared(t, "Parse", append(numbers(d), numbers(again)...), text)
	})
}
