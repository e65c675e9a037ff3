package rational_test

import (
	"slices"
	"testing"

	"exactreal/api"
	"exactreal/rational"
)

// call runs a function of the package with those of its arguments that it needs, and returns its results as lists, signs and errors among them.
type call func(x, y api.Rat) [][]uint32

func calls() map[string]call {
	one := frac(1, 1)
	return map[string]call{
		"Make":                func(x, y api.Rat) [][]uint32 { return made(rational.Make(x.Num, y.Num)) },
		"Make of one integer": func(x, _ api.Rat) [][]uint32 { return made(rational.Make(x.Num, x.Num)) },
		"Make of two parts":   func(x, _ api.Rat) [][]uint32 { return made(rational.Make(x.Num, api.Int{Mag: x.Den})) },
		"Make over 1":         func(x, _ api.Rat) [][]uint32 { return made(rational.Make(x.Num, one.Num)) },
		"Of":                  func(_, _ api.Rat) [][]uint32 { return fractions(rational.Of(7), rational.Of(0), rational.Of(7)) },
		"Neg":                 func(x, _ api.Rat) [][]uint32 { return fractions(rational.Neg(x)) },
		"Add":                 func(x, y api.Rat) [][]uint32 { return fractions(rational.Add(x, y)) },
		"Add of one fraction": func(x, _ api.Rat) [][]uint32 { return fractions(rational.Add(x, x)) },
		"Add with 0": func(x, _ api.Rat) [][]uint32 {
			return fractions(rational.Add(x, frac(0, 1)), rational.Add(frac(0, 1), x))
		},
		"Sub":                 func(x, y api.Rat) [][]uint32 { return fractions(rational.Sub(x, y)) },
		"Sub of one fraction": func(x, _ api.Rat) [][]uint32 { return fractions(rational.Sub(x, x)) },
		"Mul":                 func(x, y api.Rat) [][]uint32 { return fractions(rational.Mul(x, y)) },
		"Mul of one fraction": func(x, _ api.Rat) [][]uint32 { return fractions(rational.Mul(x, x)) },
		"Mul with 1":          func(x, _ api.Rat) [][]uint32 { return fractions(rational.Mul(x, one), rational.Mul(one, x)) },
		"Div":                 func(x, y api.Rat) [][]uint32 { return made(rational.Div(x, y)) },
		"Div of one fraction": func(x, _ api.Rat) [][]uint32 { return made(rational.Div(x, x)) },
		"Div by 1":            func(x, _ api.Rat) [][]uint32 { return made(rational.Div(x, one)) },
		"Sqrt":                sqrt,
		"Power 0":             func(x, _ api.Rat) [][]uint32 { return made(rational.Power(x, 0)) },
		"Power 1":             func(x, _ api.Rat) [][]uint32 { return made(rational.Power(x, 1)) },
		"Power -1":            func(x, _ api.Rat) [][]uint32 { return made(rational.Power(x, -1)) },
		"Power MaxPower":      func(x, _ api.Rat) [][]uint32 { return made(rational.Power(x, api.MaxPower)) },
		"Power -MaxPower":     func(x, _ api.Rat) [][]uint32 { return made(rational.Power(x, -api.MaxPower)) },
		"Power beyond":        func(x, _ api.Rat) [][]uint32 { return made(rational.Power(x, api.MaxPower+1)) },
		"no fraction":         inspect,
	}
}

// flag makes a list of a result that is none.
func flag(set bool) []uint32 {
	if set {
		return []uint32{1}
	}
	return []uint32{0}
}

// fractions returns the parts of all the results of a call.
func fractions(results ...api.Rat) [][]uint32 {
	var lists [][]uint32
	for _, x := range results {
		lists = append(lists, flag(x.Num.Neg), x.Num.Mag, x.Den)
	}
	return lists
}

func made(x api.Rat, err api.Errno) [][]uint32 {
	return append(fractions(x), []uint32{uint32(err)})
}

func sqrt(x, _ api.Rat) [][]uint32 {
	y, ok := rational.Sqrt(x)
	return append(fractions(y), flag(ok))
}

// inspect calls the functions that return no fraction.
func inspect(x, y api.Rat) [][]uint32 {
	text, ok := rational.Decimal(x)
	whole := rational.Floor(x)
	numbers := []uint32{uint32(rational.Sign(x)), uint32(rational.Cmp(x, y)), uint32(rational.Cmp(x, x)), uint32(rational.Size(x))}
	for i := range len(text) {
		numbers = append(numbers, uint32(text[i]))
	}
	return [][]uint32{flag(rational.Valid(x)), flag(whole.Neg), whole.Mag, numbers, flag(ok)}
}

// withRoom returns a copy of a list with room behind its elements, to which a function must not append.
func withRoom(a []uint32) []uint32 {
	return slices.Concat(a, []uint32{5, 6, 7, 8})[:len(a)]
}

func roomy(x api.Rat) api.Rat {
	return api.Rat{Num: api.Int{Neg: x.Num.Neg, Mag: withRoom(x.Num.Mag)}, Den: withRoom(x.Den)}
}

// unchanged reports whether a copy of a list is as withRoom made it, with its room.
func unchanged(copied, a []uint32) bool {
	whole := len(a) + 4
	return len(copied) == len(a) && slices.Equal(copied[:whole], withRoom(a)[:whole])
}

func unchangedFraction(copied, x api.Rat) bool {
	return copied.Num.Neg == x.Num.Neg && unchanged(copied.Num.Mag, x.Num.Mag) && unchanged(copied.Den, x.Den)
}

// overwrite changes all the memory that lists reach.
func overwrite(lists ...[]uint32) {
	for _, list := range lists {
		all := list[:cap(list)]
		for i := range all {
			all[i] = ^all[i]
		}
	}
}

// equal reports whether two calls have equal results.
func equal(a, b [][]uint32) bool {
	return slices.EqualFunc(a, b, slices.Equal)
}

func cloned(lists [][]uint32) [][]uint32 {
	var all [][]uint32
	for _, list := range lists {
		all = append(all, slices.Clone(list))
	}
	return all
}

// checkShared checks that results share no memory with each other; it overwrites them.
func checkShared(t *testing.T, name string, results [][]uint32, args ...any) {
	t.Helper()
	kept := cloned(results)
	for i, list := range results {
		overwrite(list)
		if !equal(results[i+1:], kept[i+1:]) {
			t.Errorf("%s%v: results share memory", name, args)
		}
	}
}

// checkMemory checks rules R2 and R5: arguments stay as they are, results share no memory with them or with other results, and equal calls have equal results.
func checkMemory(t *testing.T, name string, f call, x, y api.Rat) {
	t.Helper()
	a, b := roomy(x), roomy(y)
	first, second := f(a, b), f(a, b)
	if !equal(first, second) {
		t.Errorf("%s(%v, %v): %v, then %v", name, x, y, first, second)
	}
	kept := cloned(second)
	checkShared(t, name, first, x, y)
	if !unchangedFraction(a, x) || !unchangedFraction(b, y) {
		t.Errorf("%s(%v, %v) changes an argument or shares memory with it", name, x, y)
	}
	overwrite(a.Num.Mag, a.Den, b.Num.Mag, b.Den)
	if !equal(second, kept) {
		t.Errorf("%s(%v, %v): results share memory with an argument or with those of another call", name, x, y)
	}
}

func TestMemory(t *testing.T) {
	for name, f := range calls() {
		for _, x := range few() {
			for _, y := range few() {
				checkMemory(t, name, f, x, y)
			}
		}
		for _, x := range samples() {
			checkMemory(t, name, f, x, x)
		}
	}
}

// For fractions and integers that are not valid, and for lists that are no naturals, nothing but R1 (an end, and no panic), R2 and R5 holds.
func TestUnspecifiedArguments(t *testing.T) {
	var all []api.Rat
	for _, num := range [][]uint32{nil, {0}, {0, 0}, {4}, {7, 0}, {0, 6, 0, 0}, {top, top}} {
		for _, den := range [][]uint32{nil, {}, {0}, {0, 0, 0}, {1}, {1, 0}, {4}, {10, 0}, {3, 0, 0}, {0, 0, 5, 0}, {top, top}} {
			all = append(all, api.Rat{Num: api.Int{Mag: num}, Den: den}, api.Rat{Num: api.Int{Neg: true, Mag: num}, Den: den})
		}
	}
	for name, f := range calls() {
		for _, x := range all {
			for _, y := range all {
				checkMemory(t, name, f, x, y)
			}
		}
	}
}

// Whatever the bytes and the length of a text, Parse ends (R1), its results share no memory (R2), and only those without an error are not zero (R4).
func FuzzParse(f *testing.F) {
	for _, text := range []string{"", "0", "12.5", "0.50", ".5", "1.2.3", "007", "-1", "1\x80", "0.0000000000000000000000000000000000000001"} {
		f.Add(text)
	}
	expression := decimals()
	f.Fuzz(func(t *testing.T, text string) {
		if len(text) > api.MaxText {
			x, err := rational.Parse(text)
			checkRefused(t, "Parse", x, err, api.ErrLimit, len(text))
			return
		}
		checkAnyText(t, text, expression)
		x, err := rational.Parse(text)
		y, again := rational.Parse(text)
		if err != again || !equal(fractions(x), fractions(y)) {
			t.Errorf("Parse(%q): %v, then %v", text, x, y)
		}
		checkShared(t, "Parse", append(fractions(x), fractions(y)...), text)
	})
}
