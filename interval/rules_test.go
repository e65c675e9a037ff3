package interval_test

import (
	"math"
	"math/big"
	"slices"
	"testing"

	"exactreal/api"
	"exactreal/interval"
)

// outcome is what a call has returned: its numbers as lists, and whether it has refused them by an error or by false.
type outcome struct {
	lists     [][]uint32
	isRefused bool
	err       api.Errno
}

// call runs a function of the package with those of its arguments that it needs.
type call func(a, b api.Interval, x api.Rat, p int) outcome

func calls() map[string]call {
	return map[string]call{
		"Valid":             func(a, _ api.Interval, _ api.Rat, _ int) outcome { return flag(interval.Valid(a)) },
		"Point":             func(a, _ api.Interval, _ api.Rat, _ int) outcome { return made(interval.Point(a.Lo), api.OK) },
		"Make":              func(a, b api.Interval, _ api.Rat, _ int) outcome { return made(interval.Make(a.Lo, b.Hi)) },
		"Make of one pair":  func(a, _ api.Interval, _ api.Rat, _ int) outcome { return made(interval.Make(a.Lo, a.Hi)) },
		"Make of one end":   func(a, _ api.Interval, _ api.Rat, _ int) outcome { return made(interval.Make(a.Hi, a.Hi)) },
		"Width":             func(a, _ api.Interval, _ api.Rat, _ int) outcome { return measured(interval.Width(a)) },
		"Mid":               func(a, _ api.Interval, _ api.Rat, _ int) outcome { return measured(interval.Mid(a)) },
		"Has":               func(a, _ api.Interval, x api.Rat, _ int) outcome { return flag(interval.Has(a, x)) },
		"Within":            func(a, b api.Interval, _ api.Rat, _ int) outcome { return flag(interval.Within(a, b)) },
		"Meet":              func(a, b api.Interval, _ api.Rat, _ int) outcome { return found(interval.Meet(a, b)) },
		"Meet with itself":  func(a, _ api.Interval, _ api.Rat, _ int) outcome { return found(interval.Meet(a, a)) },
		"Meet of one point": func(a, _ api.Interval, _ api.Rat, _ int) outcome { return found(interval.Meet(a, span(a.Lo, a.Lo))) },
		"Hull":              func(a, b api.Interval, _ api.Rat, _ int) outcome { return made(interval.Hull(a, b), api.OK) },
		"Hull with itself":  func(a, _ api.Interval, _ api.Rat, _ int) outcome { return made(interval.Hull(a, a), api.OK) },
		"Hull of one point": func(a, _ api.Interval, _ api.Rat, _ int) outcome {
			return made(interval.Hull(span(a.Hi, a.Hi), span(a.Hi, a.Hi)), api.OK)
		},
		"Cmp":           func(a, b api.Interval, _ api.Rat, _ int) outcome { return integer(interval.Cmp(a, b), true) },
		"Sign":          func(a, _ api.Interval, _ api.Rat, _ int) outcome { return integer(interval.Sign(a)) },
		"Out":           func(a, _ api.Interval, _ api.Rat, p int) outcome { return made(interval.Out(a, p)) },
		"Out to an end": func(a, _ api.Interval, _ api.Rat, _ int) outcome { return made(interval.Out(a, -a.Lo.Exp)) },
		"Same":          func(a, b api.Interval, _ api.Rat, _ int) outcome { return flag(interval.Same(a, b)) },
	}
}

func flag(set bool) outcome {
	if set {
		return integer(1, true)
	}
	return integer(0, true)
}

// bits makes a list of an int.
func bits(n int) []uint32 {
	return []uint32{uint32(n), uint32(uint64(n) >> 32)}
}

func integer(n int, ok bool) outcome {
	return outcome{lists: [][]uint32{bits(n)}, isRefused: !ok}
}

// parts makes lists of the sign, the mantissa and the exponent of a dyadic.
func parts(d api.Dyadic) [][]uint32 {
	sign := []uint32{0}
	if d.Man.Neg {
		sign[0] = 1
	}
	return [][]uint32{sign, d.Man.Mag, bits(d.Exp)}
}

func measured(d api.Dyadic, err api.Errno) outcome {
	return outcome{lists: parts(d), isRefused: err != api.OK, err: err}
}

func made(a api.Interval, err api.Errno) outcome {
	return outcome{lists: append(parts(a.Lo), parts(a.Hi)...), isRefused: err != api.OK, err: err}
}

func found(a api.Interval, ok bool) outcome {
	result := made(a, api.OK)
	result.isRefused = !ok
	return result
}

// equal reports whether two calls have equal results.
func equal(a, b outcome) bool {
	return a.isRefused == b.isRefused && a.err == b.err && slices.EqualFunc(a.lists, b.lists, slices.Equal)
}

func cloned(result outcome) outcome {
	var lists [][]uint32
	for _, list := range result.lists {
		lists = append(lists, slices.Clone(list))
	}
	result.lists = lists
	return result
}

// isZero reports whether all results are zero values.
func isZero(result outcome) bool {
	var zero [][]uint32
	for len(zero) < len(result.lists) {
		zero = append(zero, parts(api.Dyadic{})...)
	}
	if len(result.lists) == 1 {
		zero = [][]uint32{bits(0)}
	}
	return slices.EqualFunc(result.lists, zero, slices.Equal)
}

// withRoom returns a copy of a list with room behind its elements, to which a function must not append.
func withRoom(a []uint32) []uint32 {
	return slices.Concat(a, []uint32{5, 6, 7, 8})[:len(a)]
}

// unchanged reports whether a copy of a list is as withRoom made it, with its room.
func unchanged(copied, a []uint32) bool {
	n := len(a) + 4
	return len(copied) == len(a) && slices.Equal(copied[:n], withRoom(a)[:n])
}

func roomy(a api.Interval) api.Interval {
	a.Lo.Man.Mag, a.Hi.Man.Mag = withRoom(a.Lo.Man.Mag), withRoom(a.Hi.Man.Mag)
	return a
}

func roomyRat(x api.Rat) api.Rat {
	x.Num.Mag, x.Den = withRoom(x.Num.Mag), withRoom(x.Den)
	return x
}

// memory returns the lists of all the arguments.
func memory(a, b api.Interval, x api.Rat) [][]uint32 {
	return [][]uint32{a.Lo.Man.Mag, a.Hi.Man.Mag, b.Lo.Man.Mag, b.Hi.Man.Mag, x.Num.Mag, x.Den}
}

// overwrite changes all the memory that lists reach.
func overwrite(lists ...[]uint32) {
	for _, list := range lists {
		all := list[:cap(list)]
		for i := range all {
			all[i] = ^all[i]
		}
	}
}

// checkShared checks that the results of one call share no memory with each other; it overwrites them.
func checkShared(t *testing.T, name string, result outcome, a, b api.Interval) {
	t.Helper()
	kept := cloned(result)
	for i, list := range result.lists {
		overwrite(list)
		if !slices.EqualFunc(result.lists[i+1:], kept.lists[i+1:], slices.Equal) {
			t.Errorf("%s(%s, %s): results share memory", name, shortSpan(a), shortSpan(b))
		}
	}
}

// checkMemory checks rules R2, R4 and R5: arguments stay as they are, results share no memory with them, with each other or with those of another call, those of a refused call are zero, and equal calls have equal results.
func checkMemory(t *testing.T, name string, f call, a, b api.Interval, x api.Rat, p int) {
	t.Helper()
	givenA, givenB, givenX := roomy(a), roomy(b), roomyRat(x)
	given := memory(givenA, givenB, givenX)
	first, second := f(givenA, givenB, givenX, p), f(givenA, givenB, givenX, p)
	kept := cloned(second)
	if !equal(first, kept) {
		t.Errorf("%s(%s, %s, %s, %d): different results", name, shortSpan(a), shortSpan(b), shortRat(x), p)
	}
	if first.isRefused && !isZero(first) {
		t.Errorf("%s(%s, %s, %s, %d) is refused, but has a result", name, shortSpan(a), shortSpan(b), shortRat(x), p)
	}
	checkShared(t, name, first, a, b)
	for i, list := range memory(a, b, x) {
		if !unchanged(given[i], list) {
			t.Errorf("%s(%s, %s, %s, %d) changes an argument or shares memory with it", name, shortSpan(a), shortSpan(b), shortRat(x), p)
		}
	}
	overwrite(given...)
	if !equal(second, kept) {
		t.Errorf("%s(%s, %s, %s, %d): results share memory with an argument or with those of another call", name, shortSpan(a), shortSpan(b), shortRat(x), p)
	}
	if third := f(a, b, x, p); !equal(third, kept) {
		t.Errorf("%s(%s, %s, %s, %d): another result, after earlier ones have been overwritten", name, shortSpan(a), shortSpan(b), shortRat(x), p)
	}
}

func TestMemory(t *testing.T) {
	fractions := []api.Rat{rat(0, 1), rat(1, 1), rat(-6, 1), rat(1, 3), rat(-5, 8), frac(ones(100), outer(90)), frac(negative(ones(300)), power(40))}
	precisions := []int{0, 1, -7, 40, 100, coarsest, finest, finest + 1}
	all := slices.Concat(spans(every(6, samples())), spans(every(3, extremes())))
	for name, f := range calls() {
		for i, a := range all {
			for j, b := range all {
				if i == j || (i+j)%11 == 0 {
					checkMemory(t, name, f, a, b, fractions[i%len(fractions)], precisions[j%len(precisions)])
				}
			}
		}
	}
}

// Of an end that lies on the grid, Out returns a copy; of points, equal ends share nothing.
func TestMemoryOfEqualEnds(t *testing.T) {
	for name, f := range calls() {
		for _, d := range slices.Concat(samples(), extremes()) {
			a := span(d, d)
			for _, p := range []int{-d.Exp, 0, coarsest, finest} {
				checkMemory(t, name, f, a, a, rat(1, 3), p)
			}
		}
	}
}

// One list as the memory of both ends, and of both intervals, must not be that of a result.
func TestMemoryThatArgumentsShare(t *testing.T) {
	for name, f := range calls() {
		for _, d := range []api.Dyadic{dy(1, 0), dy(-3, 5), wide(outer(100), -7), wide(negative(ones(1000)), 40)} {
			list := withRoom(d.Man.Mag)
			shared := api.Dyadic{Man: api.Int{Neg: d.Man.Neg, Mag: list}, Exp: d.Exp}
			x := api.Rat{Num: shared.Man, Den: []uint32{1}}
			first, second := f(span(shared, shared), span(shared, shared), x, 3), f(span(shared, shared), span(shared, shared), x, 3)
			kept := cloned(second)
			checkShared(t, name, first, span(d, d), span(d, d))
			if !unchanged(list, d.Man.Mag) {
				t.Errorf("%s of %s changes an argument or shares memory with it", name, shortDyadic(d))
			}
			overwrite(list)
			if !equal(second, kept) {
				t.Errorf("%s of %s: results share memory with an argument or with those of another call", name, shortDyadic(d))
			}
		}
	}
}

// For intervals, dyadics and fractions that are not valid, nothing but R1 (an end, and no panic), R2, R4 and R5 holds, whatever the precision.
func TestUnspecifiedArguments(t *testing.T) {
	lists := [][]uint32{nil, {}, {0}, {0, 0}, {1}, {4}, {7, 0}, {0, 6, 0, 0}, {top, top}, elements(ones(api.MaxBits + 1))}
	exponents := []int{0, 1, -1, highest + 1, lowest - 1, 2 * highest, 2*lowest - 1, api.MaxShift, api.MaxShift + 1, -api.MaxShift, -api.MaxShift - 1, math.MaxInt32, math.MinInt32, math.MaxInt, math.MaxInt - 1, math.MaxInt - finest, math.MinInt, math.MinInt + 1, math.MinInt - coarsest}
	ends := invalid()
	for i, mag := range lists {
		for j, exp := range exponents {
			ends = append(ends, api.Dyadic{Man: api.Int{Neg: (i+j)%2 == 0, Mag: mag}, Exp: exp})
		}
	}
	precisions := append(outside(), 0, 1, -1, 32, coarsest, finest)
	n := len(ends)
	for name, f := range calls() {
		for i, lo := range ends {
			for _, step := range []int{0, 7, 50} {
				hi := ends[(i+step)%n]
				a, b := span(lo, hi), span(ends[(i+2*step+3)%n], ends[(i*3+step)%n])
				x := api.Rat{Num: ends[(i*5+step)%n].Man, Den: lists[(i+step)%len(lists)]}
				checkMemory(t, name, f, a, b, x, precisions[(i+step)%len(precisions)])
			}
		}
	}
}

// Intervals with Lo greater than Hi are not valid: nothing but R1, R2, R4 and R5 holds for them.
func TestReversedIntervals(t *testing.T) {
	ends := slices.Concat(every(5, samples()), every(3, extremes()))
	for name, f := range calls() {
		for i, lo := range ends {
			for j, hi := range ends {
				a, b := span(lo, hi), span(ends[(i*3+j)%len(ends)], ends[(i+j*5)%len(ends)])
				checkMemory(t, name, f, a, b, rat(int64(i-9), 7), 10*(j-8))
			}
		}
	}
}

// Whatever the interval is, Out refuses a precision that is not permitted.
func TestRefusedPrecisions(t *testing.T) {
	huge := api.Dyadic{Man: api.Int{Neg: true, Mag: []uint32{0, 0}}, Exp: math.MinInt}
	for _, p := range outside() {
		for _, a := range []api.Interval{{}, whole(-1, 1), whole(1, -1), span(huge, huge), span(dy(1, 0), huge), span(huge, api.Dyadic{Man: toInt(big.NewInt(4)), Exp: math.MaxInt})} {
			if got := made(interval.Out(a, p)); got.err != api.ErrArg || !isZero(got) {
				t.Errorf("Out(%s, %d): error %d, %v", shortSpan(a), p, got.err, got.lists)
			}
		}
	}
}
