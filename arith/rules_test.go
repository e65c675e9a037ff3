package arith_test

import (
	"math"
	"math/big"
	"slices"
	"testing"

	"exactreal/api"
	"exactreal/arith"
)

// outcome is what a call has returned: an interval and an error, or whether an interval is small.
type outcome struct {
	a     api.Interval
	err   api.Errno
	small bool
}

// call runs a function of the package with those of its arguments that it needs.
type call func(a, b api.Interval, x api.Rat, w int) outcome

func calls() map[string]call {
	return map[string]call{
		"Const":           func(_, _ api.Interval, x api.Rat, w int) outcome { return made(arith.Const(x, w)) },
		"Neg":             func(a, _ api.Interval, _ api.Rat, w int) outcome { return made(arith.Neg(a, w)) },
		"Add":             func(a, b api.Interval, _ api.Rat, w int) outcome { return made(arith.Add(a, b, w)) },
		"Add of zero":     func(a, _ api.Interval, _ api.Rat, w int) outcome { return made(arith.Add(a, api.Interval{}, w)) },
		"Add to zero":     func(a, _ api.Interval, _ api.Rat, w int) outcome { return made(arith.Add(api.Interval{}, a, w)) },
		"Add to itself":   func(a, _ api.Interval, _ api.Rat, w int) outcome { return made(arith.Add(a, a, w)) },
		"Sub":             func(a, b api.Interval, _ api.Rat, w int) outcome { return made(arith.Sub(a, b, w)) },
		"Sub from itself": func(a, _ api.Interval, _ api.Rat, w int) outcome { return made(arith.Sub(a, a, w)) },
		"Mul":             func(a, b api.Interval, _ api.Rat, w int) outcome { return made(arith.Mul(a, b, w)) },
		"Mul by one":      func(a, _ api.Interval, _ api.Rat, w int) outcome { return made(arith.Mul(a, whole(1, 1), w)) },
		"Mul by itself":   func(a, _ api.Interval, _ api.Rat, w int) outcome { return made(arith.Mul(a, a, w)) },
		"Div":             func(a, b api.Interval, _ api.Rat, w int) outcome { return made(arith.Div(a, b, w)) },
		"Div by one":      func(a, _ api.Interval, _ api.Rat, w int) outcome { return made(arith.Div(a, whole(1, 1), w)) },
		"Div by itself":   func(a, _ api.Interval, _ api.Rat, w int) outcome { return made(arith.Div(a, a, w)) },
		"Small":           func(a, _ api.Interval, _ api.Rat, _ int) outcome { return outcome{small: arith.Small(a)} },
	}
}

func made(a api.Interval, err api.Errno) outcome {
	return outcome{a: a, err: err}
}

// equal reports whether two calls have equal results.
func equal(x, y outcome) bool {
	return identical(x.a, y.a) && x.err == y.err && x.small == y.small
}

// memory returns the lists of all arguments.
func memory(a, b api.Interval, x api.Rat) [][]uint32 {
	return [][]uint32{a.Lo.Man.Mag, a.Hi.Man.Mag, b.Lo.Man.Mag, b.Hi.Man.Mag, x.Num.Mag, x.Den}
}

// withRoom returns a copy of a list with room behind its elements, to which a function must not append.
func withRoom(a []uint32) []uint32 {
	return slices.Concat(a, []uint32{5, 6, 7, 8})[:len(a)]
}

// unchanged reports whether a copy of a list is as withRoom made it, with its room.
func unchanged(copied, a []uint32) bool {
	n := len(a) + 4
	return len(copied) == len(a) && slices.Equal(copied[:n], withRoom(a)[:n])
}

func roomy(a api.Interval) api.Interval {
	a.Lo.Man.Mag, a.Hi.Man.Mag = withRoom(a.Lo.Man.Mag), withRoom(a.Hi.Man.Mag)
	return a
}

func cloned(x outcome) outcome {
	x.a.Lo.Man.Mag, x.a.Hi.Man.Mag = slices.Clone(x.a.Lo.Man.Mag), slices.Clone(x.a.Hi.Man.Mag)
	return x
}

// overwrite changes all the memory that a list reaches.
func overwrite(list []uint32) {
	all := list[:cap(list)]
	for i := range all {
		all[i] = ^all[i]
	}
}

// overwriteEnds changes the memory of both ends of a result, which must not be the same.
func overwriteEnds(t *testing.T, about string, a api.Interval) {
	t.Helper()
	kept := slices.Clone(a.Hi.Man.Mag)
	overwrite(a.Lo.Man.Mag)
	if !slices.Equal(a.Hi.Man.Mag, kept) {
		t.Errorf("%s: the ends of the result share memory", about)
	}
	overwrite(a.Hi.Man.Mag)
}

// checkMemory checks rules R2, R4 and R5: arguments stay as they are, results share no memory with them, with each other or with those of another call, those besides an error are zero, and equal calls have equal results.
func checkMemory(t *testing.T, name string, f call, a, b api.Interval, x api.Rat, w int) {
	t.Helper()
	about := name + " of " + shortSpan(a) + ", " + shortSpan(b) + ", " + shortRat(x) + " at " + big.NewInt(int64(w)).String()
	givenA, givenB := roomy(a), roomy(b)
	givenX := api.Rat{Num: api.Int{Neg: x.Num.Neg, Mag: withRoom(x.Num.Mag)}, Den: withRoom(x.Den)}
	given := memory(givenA, givenB, givenX)
	first, second := f(givenA, givenB, givenX, w), f(givenA, givenB, givenX, w)
	kept := cloned(second)
	if !equal(first, kept) {
		t.Errorf("%s: different results", about)
	}
	if first.err != api.OK && !equal(first, outcome{err: first.err}) {
		t.Errorf("%s: a result besides an error", about)
	}
	overwriteEnds(t, about, first.a)
	for i, list := range memory(a, b, x) {
		if !unchanged(given[i], list) {
			t.Errorf("%s: an argument is changed, or shares memory with the result", about)
		}
	}
	for _, list := range given {
		overwrite(list)
	}
	if !equal(second, kept) {
		t.Errorf("%s: results share memory with an argument or with those of another call", about)
	}
	if third := f(a, b, x, w); !equal(third, kept) {
		t.Errorf("%s: another result, after earlier ones have been overwritten", about)
	}
}

func TestMemory(t *testing.T) {
	fractions := []api.Rat{rat(0, 1), rat(1, 1), rat(-6, 1), rat(1, 3), rat(-5, 8), toRat(frac(ones(100), outer(90))), toRat(frac(negative(ones(300)), power(40)))}
	all := slices.Concat(spans(every(9, samples())), spans(every(4, extremes())), spans(every(7, quarters(10))))
	for name, f := range calls() {
		for i, a := range all {
			for j, b := range all {
				if i == j || (i+j)%11 == 0 {
					checkMemory(t, name, f, a, b, fractions[i%len(fractions)], precisions()[(i+j/11)%len(precisions())])
				}
			}
		}
	}
}

// Points, the ends of which are equal, on the grid and off it.
func TestMemoryOfPoints(t *testing.T) {
	for name, f := range calls() {
		for _, d := range samples() {
			for _, w := range []int{0, api.MaxWork, api.MaxWork + 1} {
				checkMemory(t, name, f, point(d), point(d), toRat(value(d)), w)
			}
		}
	}
}

// One list as the memory of both ends, of both intervals and of the fraction must not be that of a result.
func TestMemoryThatArgumentsShare(t *testing.T) {
	for name, f := range calls() {
		for _, d := range []api.Dyadic{dy(1, 0), dy(-3, 5), dy(5, -2), wide(outer(100), -7), wide(negative(ones(1000)), 40)} {
			list := withRoom(d.Man.Mag)
			shared := point(api.Dyadic{Man: api.Int{Neg: d.Man.Neg, Mag: list}, Exp: d.Exp})
			x := api.Rat{Num: shared.Lo.Man, Den: []uint32{1}}
			result := f(shared, shared, x, 7)
			kept := cloned(result)
			overwriteEnds(t, name, result.a)
			if !unchanged(list, d.Man.Mag) {
				t.Errorf("%s of %s: an argument is changed, or shares memory with the result", name, shortSpan(point(d)))
			}
			if again := f(shared, shared, x, 7); !equal(again, kept) {
				t.Errorf("%s of %s: different results", name, shortSpan(point(d)))
			}
		}
	}
}

// strange returns dyadics that no small interval ends at, most of which are not valid.
func strange() []api.Dyadic {
	lists := [][]uint32{nil, {0}, {0, 0}, {1}, {4}, {7, 0}, {0, 6, 0, 0}, {top, top}, elements(ones(api.MaxBits)), elements(outer(api.MaxBits + 1))}
	exps := []int{0, 1, -1, highest, -finest - 1, api.MaxExponent, -api.MaxExponent, api.MaxExponent + 1, -api.MaxExponent - 1, 2 * api.MaxExponent, -2*api.MaxExponent - 1, api.MaxShift + 1, -api.MaxShift - 1, math.MaxInt32, math.MinInt32, math.MaxInt, math.MaxInt - 1, math.MaxInt - finest, math.MinInt, math.MinInt + 1, math.MinInt + highest}
	all := invalid()
	for i, mag := range lists {
		for j, exp := range exps {
			all = append(all, api.Dyadic{Man: api.Int{Neg: (i+j)%2 == 0, Mag: mag}, Exp: exp})
		}
	}
	return all
}

// For intervals that are not small and fractions that are not valid, nothing but R1 (an end, and no panic), R2, R4 and R5 holds, whatever the precision.
func TestUnspecifiedArguments(t *testing.T) {
	ends := strange()
	n := len(ends)
	ws := append(outside(), precisions()...)
	for name, f := range calls() {
		for i, lo := range ends {
			for _, step := range []int{0, 7, 50} {
				a, b := span(lo, ends[(i+step)%n]), span(ends[(i+2*step+3)%n], ends[(i*3+step)%n])
				x := api.Rat{Num: ends[(i*5+step)%n].Man, Den: ends[(i*7+step)%n].Man.Mag}
				checkMemory(t, name, f, a, b, x, ws[(i+step)%len(ws)])
				checkMemory(t, name, f, point(lo), whole(3, 5), x, step)
				checkMemory(t, name, f, whole(-3, 5), point(lo), x, step)
			}
		}
	}
}

// Intervals with Lo greater than Hi are not valid, and so not small: nothing but R1, R2, R4 and R5 holds for them.
func TestReversedIntervals(t *testing.T) {
	ends := slices.Concat(every(9, samples()), every(3, extremes()))
	n := len(ends)
	for name, f := range calls() {
		for i, lo := range ends {
			for j, hi := range ends {
				checkMemory(t, name, f, span(lo, hi), span(ends[(i*3+j)%n], ends[(i+j*5)%n]), rat(int64(i-9), 7), 10*j)
			}
		}
	}
}

// Whatever the other arguments are, a precision that is not permitted is refused.
func TestRefusedPrecisionsOfUnspecifiedArguments(t *testing.T) {
	huge := api.Dyadic{Man: api.Int{Neg: true, Mag: []uint32{4, 0}}, Exp: math.MinInt}
	none := api.Dyadic{Man: api.Int{Mag: []uint32{0, 0}}, Exp: math.MaxInt}
	most := wide(ones(api.MaxBits), api.MaxExponent)
	all := []api.Interval{whole(1, -1), point(huge), point(none), span(none, huge), span(dy(1, 0), huge), point(most), span(opposite(most), most)}
	for name, f := range calls() {
		for _, w := range outside() {
			for i, a := range all {
				b := all[(i*3+1)%len(all)]
				got := f(a, b, api.Rat{Num: most.Man, Den: huge.Man.Mag}, w)
				if name != "Small" && !equal(got, outcome{err: api.ErrArg}) {
					t.Errorf("%s(%s, %s) at %d = %s, error %d", name, shortSpan(a), shortSpan(b), w, shortSpan(got.a), got.err)
				}
			}
		}
	}
}
