package circular_test

import (
	"math"
	"math/big"
	"slices"
	"testing"

	"exactreal/api"
	"exactreal/circular"
)

// outcome is what a call has returned: a number, an interval and an error.
type outcome struct {
	k   int
	a   api.Interval
	err api.Errno
}

// call runs a function of the package, with an interval or with its lower end.
type call func(a api.Interval, w int) outcome

func calls() map[string]call {
	return map[string]call{
		"Sin": func(a api.Interval, w int) outcome {
			result, err := circular.Sin(a, w)
			return outcome{a: result, err: err}
		},
		"Cos": func(a api.Interval, w int) outcome {
			result, err := circular.Cos(a, w)
			return outcome{a: result, err: err}
		},
		"Quarter": func(a api.Interval, w int) outcome {
			k, result, err := circular.Quarter(a.Lo, w)
			return outcome{k: k, a: result, err: err}
		},
	}
}

// equal reports whether two calls have equal results.
func equal(x, y outcome) bool {
	return x.k == y.k && identical(x.a, y.a) && x.err == y.err
}

// withRoom returns a copy of a list with room behind its elements, to which a function must not append.
func withRoom(a []uint32) []uint32 {
	return slices.Concat(a, []uint32{5, 6, 7, 8})[:len(a)]
}

// unchanged reports whether a copy of a list is as withRoom made it, with its room.
func unchanged(copied, a []uint32) bool {
	n := len(a) + 4
	return len(copied) == len(a) && slices.Equal(copied[:n], withRoom(a)[:n])
}

func roomy(a api.Interval) api.Interval {
	a.Lo.Man.Mag, a.Hi.Man.Mag = withRoom(a.Lo.Man.Mag), withRoom(a.Hi.Man.Mag)
	return a
}

func cloned(x outcome) outcome {
	x.a.Lo.Man.Mag, x.a.Hi.Man.Mag = slices.Clone(x.a.Lo.Man.Mag), slices.Clone(x.a.Hi.Man.Mag)
	return x
}

// overwrite changes all the memory that a list reaches.
func overwrite(list []uint32) {
	all := list[:cap(list)]
	for i := range all {
		all[i] = ^all[i]
	}
}

// overwriteEnds changes the memory of both ends of a result, which must not be the same.
func overwriteEnds(t *testing.T, about string, a api.Interval) {
	t.Helper()
	kept := slices.Clone(a.Hi.Man.Mag)
	overwrite(a.Lo.Man.Mag)
	if !slices.Equal(a.Hi.Man.Mag, kept) {
		t.Errorf("%s: the ends of the result share memory", about)
	}
	overwrite(a.Hi.Man.Mag)
}

// checkMemory checks rules R2, R4 and R5: arguments stay as they are, results share no memory with them, with each other or with those of another call, those besides an error are zero, and equal calls have equal results.
func checkMemory(t *testing.T, name string, f call, a api.Interval, w int) {
	t.Helper()
	about := name + " of " + shortSpan(a) + " at " + big.NewInt(int64(w)).String()
	given := roomy(a)
	first, second := f(given, w), f(given, w)
	kept := cloned(second)
	if !equal(first, kept) {
		t.Errorf("%s: different results", about)
	}
	if first.err != api.OK && !equal(first, outcome{err: first.err}) {
		t.Errorf("%s: a result besides an error", about)
	}
	overwriteEnds(t, about, first.a)
	if !unchanged(given.Lo.Man.Mag, a.Lo.Man.Mag) || !unchanged(given.Hi.Man.Mag, a.Hi.Man.Mag) {
		t.Errorf("%s: an argument is changed, or shares memory with the result", about)
	}
	overwrite(given.Lo.Man.Mag)
	overwrite(given.Hi.Man.Mag)
	if !equal(second, kept) {
		t.Errorf("%s: results share memory with an argument or with those of another call", about)
	}
	if third := f(a, w); !equal(third, kept) {
		t.Errorf("%s: another result, after earlier ones have been overwritten", about)
	}
}

func TestMemory(t *testing.T) {
	all := ends()
	ws := slices.Concat(precisions(), outside()[:3], []int{200, 500})
	for name, f := range calls() {
		for i, lo := range all {
			for _, hi := range every(13, all[i:]) {
				checkMemory(t, name, f, span(lo, hi), ws[i%len(ws)])
			}
		}
	}
}

// Points, the ends of which are equal, on the grid and off it.
func TestMemoryOfPoints(t *testing.T) {
	for name, f := range calls() {
		for _, d := range ends() {
			for _, w := range []int{0, 12, 64, 333, api.MaxWork + 1} {
				checkMemory(t, name, f, point(d), w)
			}
		}
		for _, d := range every(25, ends()) {
			checkMemory(t, name, f, point(d), api.MaxWork)
		}
	}
}

// One list as the memory of both ends must not be that of a result.
func TestMemoryThatArgumentsShare(t *testing.T) {
	for name, f := range calls() {
		for _, d := range []api.Dyadic{dy(1, 0), dy(-3, 5), dy(5, -2), wide(outer(100), -99), wide(negative(ones(1000)), -995)} {
			for _, w := range []int{0, 7, 12, 70} {
				list := withRoom(d.Man.Mag)
				shared := point(api.Dyadic{Man: api.Int{Neg: d.Man.Neg, Mag: list}, Exp: d.Exp})
				result := f(shared, w)
				kept := cloned(result)
				overwriteEnds(t, name, result.a)
				if !unchanged(list, d.Man.Mag) {
					t.Errorf("%s of %s: an argument is changed, or shares memory with the result", name, short(d))
				}
				if again := f(shared, w); !equal(again, kept) {
					t.Errorf("%s of %s: different results", name, short(d))
				}
			}
		}
	}
}

// The same results come again after calls with other arguments, precisions and errors.
func TestResultsStayTheSame(t *testing.T) {
	all := every(8, ends())
	ws := []int{0, 12, 40, 300, 1000}
	for name, f := range calls() {
		var kept []outcome
		for i, d := range all {
			kept = append(kept, f(point(d), ws[i%len(ws)]))
		}
		for i, d := range slices.Backward(all) {
			f(point(d), -1)
			f(point(tooLarge()[0]), 20)
			if got := f(point(d), ws[i%len(ws)]); !equal(got, kept[i]) {
				t.Errorf("%s of %s at %d is %s, and %s before", name, short(d), ws[i%len(ws)], shortSpan(got.a), shortSpan(kept[i].a))
			}
		}
	}
}

// invalid returns dyadics that are not valid, each in one respect, though most of them stand for ends of small intervals.
func invalid() []api.Dyadic {
	all := []api.Dyadic{{Exp: 1}, {Exp: -1}, {Exp: math.MinInt}, {Exp: math.MaxInt}, {Man: api.Int{Neg: true}}, {Man: api.Int{Mag: []uint32{0}}}, {Man: api.Int{Mag: []uint32{1, 0}}}, {Man: api.Int{Neg: true, Mag: []uint32{3, 7, 0}}, Exp: -34}, {Man: api.Int{Mag: []uint32{0, 1}}, Exp: -31}}
	for _, even := range []uint32{2, 4, 6, top - 1} {
		all = append(all, api.Dyadic{Man: api.Int{Mag: []uint32{even}}}, api.Dyadic{Man: api.Int{Neg: true, Mag: []uint32{even, 1}}, Exp: -33})
	}
	for _, exp := range []int{api.MaxExponent + 1, -api.MaxExponent - 1, math.MaxInt, math.MaxInt - 1, math.MinInt, math.MinInt + 1} {
		all = append(all, api.Dyadic{Man: api.Int{Mag: []uint32{1}}, Exp: exp}, api.Dyadic{Man: api.Int{Neg: true, Mag: []uint32{5, 1}}, Exp: exp})
	}
	return append(all, api.Dyadic{Man: api.Int{Mag: elements(ones(api.MaxBits + 1))}, Exp: -api.MaxBits})
}

// notSmall returns valid dyadics that no small interval ends at.
func notSmall() []api.Dyadic {
	all := []api.Dyadic{dy(1, highest), dy(3, highest-1), wide(ones(highest+1), 0), dy(1, -finest-1), wide(outer(finest+2), -finest-1), wide(ones(finest+10), -finest-1), dy(1, api.MaxExponent), dy(1, -api.MaxExponent), wide(ones(api.MaxBits), api.MaxExponent), wide(ones(api.MaxBits), -api.MaxExponent), wide(outer(api.MaxBits), -api.MaxBits/2)}
	for _, d := range slices.Clone(all) {
		all = append(all, opposite(d))
	}
	return all
}

// strange returns dyadics, most of which are not valid or end no small interval.
func strange() []api.Dyadic {
	lists := [][]uint32{nil, {0}, {0, 0}, {1}, {4}, {7, 0}, {0, 6, 0, 0}, {top, top}, elements(ones(api.MaxBits)), elements(outer(api.MaxBits + 1))}
	exps := []int{0, 1, -1, highest, -finest - 1, api.MaxExponent, -api.MaxExponent, api.MaxExponent + 1, -api.MaxExponent - 1, 2 * api.MaxExponent, -2*api.MaxExponent - 1, api.MaxShift + 1, -api.MaxShift - 1, math.MaxInt32, math.MinInt32, math.MaxInt, math.MaxInt - 1, math.MaxInt - finest, math.MinInt, math.MinInt + 1, math.MinInt + finest}
	all := append(invalid(), notSmall()...)
	for i, mag := range lists {
		for j, exp := range exps {
			all = append(all, api.Dyadic{Man: api.Int{Neg: (i+j)%2 == 0, Mag: mag}, Exp: exp})
		}
	}
	return all
}

// For intervals that are not small, nothing but R1 (an end, and no panic), R2, R4 and R5 holds, whatever the precision.
func TestUnspecifiedArguments(t *testing.T) {
	all := strange()
	ws := slices.Concat(precisions(), outside(), []int{999})
	for name, f := range calls() {
		for i, d := range all {
			w := ws[i*5%len(ws)]
			checkMemory(t, name, f, point(d), w)
			checkMemory(t, name, f, point(d), leastWork+i%9)
			checkMemory(t, name, f, span(d, all[(i*7+3)%len(all)]), w)
			checkMemory(t, name, f, span(api.Dyadic{}, d), i%40)
			checkMemory(t, name, f, span(d, dy(1, 0)), i%40)
		}
	}
}

// What no small interval ends at is refused.
func TestArgumentsThatAreNotSmall(t *testing.T) {
	for _, d := range append(invalid(), notSmall()...) {
		for _, w := range []int{leastWork, 64, api.MaxWork} {
			checkError(t, point(d), w, api.ErrLarge)
			checkError(t, span(d, dy(1, 0)), w, api.ErrLarge)
			checkError(t, span(dy(1, 0), d), w, api.ErrLarge)
			checkQuarterError(t, d, w)
		}
	}
}

func TestUnspecifiedArgumentsAtTheGreatestPrecision(t *testing.T) {
	for name, f := range calls() {
		for _, d := range append(invalid(), notSmall()...) {
			for _, a := range []api.Interval{point(d), span(d, dy(1, 0)), span(dy(1, 0), d), span(d, greatest())} {
				checkMemory(t, name, f, a, api.MaxWork)
			}
		}
	}
}

// Intervals with Lo greater than Hi are not valid, and so not small: nothing but R1, R2, R4 and R5 holds for them, however large Lo is.
func TestReversedIntervals(t *testing.T) {
	all := append(every(5, ends()), dy(1, 40), dy(1, highest-1))
	for name, f := range calls() {
		for i, lo := range all {
			for _, hi := range all[:i] {
				checkMemory(t, name, f, span(lo, hi), i*3)
			}
		}
	}
}

// Whatever the other arguments are, a precision that is not permitted is refused.
func TestRefusedPrecisionsOfUnspecifiedArguments(t *testing.T) {
	for name, f := range calls() {
		for i, d := range strange() {
			for _, a := range []api.Interval{point(d), span(d, dy(1, 0)), span(dy(1, 0), d)} {
				w := outside()[i%len(outside())]
				if got := f(a, w); !equal(got, outcome{err: api.ErrArg}) {
					t.Errorf("%s of %s at %d is %s, error %d", name, shortSpan(a), w, shortSpan(got.a), got.err)
				}
			}
		}
	}
}
