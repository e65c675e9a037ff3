package arctangent_test

import (
	"math"
	"math/big"
	"slices"
	"testing"

	"exactreal/api"
	"exactreal/arctangent"
)

// outcome is what a call has returned.
type outcome struct {
	a   api.Interval
	err api.Errno
}

func atan(a api.Interval, w int) outcome {
	result, err := arctangent.Atan(a, w)
	return outcome{result, err}
}

func recipOf(n, w int) outcome {
	result, err := arctangent.Recip(n, w)
	return outcome{result, err}
}

// equal reports whether two calls have equal results.
func equal(x, y outcome) bool {
	return identical(x.a, y.a) && x.err == y.err
}

// withRoom returns a copy of a list with room behind its elements, to which a function must not append.
func withRoom(a []uint32) []uint32 {
	return slices.Concat(a, []uint32{5, 6, 7, 8})[:len(a)]
}

// unchanged reports whether a copy of a list is as withRoom made it, with its room.
func unchanged(copied, a []uint32) bool {
	n := len(a) + 4
	return len(copied) == len(a) && slices.Equal(copied[:n], withRoom(a)[:n])
}

func roomy(a api.Interval) api.Interval {
	a.Lo.Man.Mag, a.Hi.Man.Mag = withRoom(a.Lo.Man.Mag), withRoom(a.Hi.Man.Mag)
	return a
}

func cloned(x outcome) outcome {
	x.a.Lo.Man.Mag, x.a.Hi.Man.Mag = slices.Clone(x.a.Lo.Man.Mag), slices.Clone(x.a.Hi.Man.Mag)
	return x
}

// overwrite changes all the memory that a list reaches.
func overwrite(list []uint32) {
	all := list[:cap(list)]
	for i := range all {
		all[i] = ^all[i]
	}
}

// overwriteEnds changes the memory of both ends of a result, which must not be the same.
func overwriteEnds(t *testing.T, about string, a api.Interval) {
	t.Helper()
	kept := slices.Clone(a.Hi.Man.Mag)
	overwrite(a.Lo.Man.Mag)
	if !slices.Equal(a.Hi.Man.Mag, kept) {
		t.Errorf("%s: the ends of the result share memory", about)
	}
	overwrite(a.Hi.Man.Mag)
}

// checkResults checks that the results of a function are equal and do not share memory, whatever is done with the earlier ones, and that there is none besides an error. In between, it calls another function.
func checkResults(t *testing.T, about string, f func() outcome, between func()) {
	t.Helper()
	first, second := f(), f()
	kept := cloned(second)
	if !equal(first, kept) {
		t.Errorf("%s: different results", about)
	}
	if first.err != api.OK && !identical(first.a, api.Interval{}) {
		t.Errorf("%s: a result besides an error", about)
	}
	overwriteEnds(t, about, first.a)
	between()
	if !equal(second, kept) {
		t.Errorf("%s: results share memory with an argument or with those of another call", about)
	}
}

// checkMemory checks rules R2, R4 and R5 for Atan: its argument stays as it is, results share no memory with it, with each other or with those of another call, those besides an error are zero, and equal calls have equal results.
func checkMemory(t *testing.T, a api.Interval, w int) {
	t.Helper()
	about := "Atan of " + shortSpan(a) + " at " + big.NewInt(int64(w)).String()
	given := roomy(a)
	checkResults(t, about, func() outcome {
		return atan(given, w)
	}, func() {
		if !unchanged(given.Lo.Man.Mag, a.Lo.Man.Mag) || !unchanged(given.Hi.Man.Mag, a.Hi.Man.Mag) {
			t.Errorf("%s: an argument is changed, or shares memory with the result", about)
		}
		overwrite(given.Lo.Man.Mag)
		overwrite(given.Hi.Man.Mag)
	})
}

func TestMemory(t *testing.T) {
	all := ends()
	ws := slices.Concat(precisions(), outside()[:3], []int{200, 500})
	for i, lo := range all {
		for _, hi := range every(9, all[i:]) {
			checkMemory(t, span(lo, hi), ws[i%len(ws)])
		}
	}
}

// Points, the ends of which are equal, on the grid and off it.
func TestMemoryOfPoints(t *testing.T) {
	for _, d := range ends() {
		for _, w := range []int{0, 12, 64, 333, api.MaxWork + 1} {
			checkMemory(t, point(d), w)
		}
	}
	for _, d := range every(9, ends()) {
		checkMemory(t, point(d), api.MaxWork)
	}
}

// One list as the memory of both ends must not be that of a result.
func TestMemoryThatArgumentsShare(t *testing.T) {
	for _, d := range []api.Dyadic{dy(1, 0), dy(3, 5), dy(5, -2), dy(3, -2), dy(1, -20), wide(outer(100), -99), wide(ones(1000), -995), dy(-3, 5)} {
		for _, w := range []int{0, 7, 12, 70, 1000} {
			list := withRoom(d.Man.Mag)
			shared := point(api.Dyadic{Man: api.Int{Neg: d.Man.Neg, Mag: list}, Exp: d.Exp})
			checkResults(t, "Atan of "+short(d), func() outcome {
				return atan(shared, w)
			}, func() {
				if !unchanged(list, d.Man.Mag) {
					t.Errorf("Atan of %s: an argument is changed, or shares memory with the result", short(d))
				}
			})
		}
	}
}

// The results of Recip share no memory with each other or with those of another call.
func TestMemoryOfRecip(t *testing.T) {
	for _, n := range slices.Concat(numbers(), []int{1, 0, -1, most + 1, math.MinInt, math.MaxInt}) {
		for _, w := range slices.Concat(precisions(), outside(), []int{1000, api.MaxWork}) {
			checkResults(t, "Recip", func() outcome {
				return recipOf(n, w)
			}, func() {
				other := recipOf(n, w)
				overwriteEnds(t, "Recip", other.a)
			})
		}
	}
}

// The same results come again after calls with other arguments, precisions and errors.
func TestResultsStayTheSame(t *testing.T) {
	all := every(8, ends())
	ws := []int{0, 12, 40, 300, 1000}
	var kept []outcome
	for i, d := range all {
		kept = append(kept, atan(point(d), ws[i%len(ws)]), recipOf(i+2, ws[i%len(ws)]))
	}
	for i, d := range slices.Backward(all) {
		atan(point(d), -1)
		atan(span(opposite(least()), greatest()), 20)
		recipOf(1, 20)
		recipOf(i+3, 7)
		again := []outcome{atan(point(d), ws[i%len(ws)]), recipOf(i+2, ws[i%len(ws)])}
		if !slices.EqualFunc(again, kept[2*i:2*i+2], equal) {
			t.Errorf("the results for %s, or for %d, at %d are not the same as before", short(d), i+2, ws[i%len(ws)])
		}
	}
}

// invalid returns dyadics that are not valid, each in one respect, though most of them stand for ends of small intervals.
func invalid() []api.Dyadic {
	all := []api.Dyadic{{Exp: 1}, {Exp: -1}, {Exp: math.MinInt}, {Exp: math.MaxInt}, {Man: api.Int{Neg: true}}, {Man: api.Int{Mag: []uint32{0}}}, {Man: api.Int{Mag: []uint32{1, 0}}}, {Man: api.Int{Neg: true, Mag: []uint32{3, 7, 0}}, Exp: -34}, {Man: api.Int{Mag: []uint32{0, 1}}, Exp: -31}}
	for _, even := range []uint32{2, 4, 6, top - 1} {
		all = append(all, api.Dyadic{Man: api.Int{Mag: []uint32{even}}}, api.Dyadic{Man: api.Int{Mag: []uint32{even, 1}}, Exp: -33}, api.Dyadic{Man: api.Int{Neg: true, Mag: []uint32{even, 1}}, Exp: -33})
	}
	for _, exp := range []int{api.MaxExponent + 1, -api.MaxExponent - 1, math.MaxInt, math.MaxInt - 1, math.MinInt, math.MinInt + 1} {
		all = append(all, api.Dyadic{Man: api.Int{Mag: []uint32{1}}, Exp: exp}, api.Dyadic{Man: api.Int{Mag: []uint32{3, 1}}, Exp: exp}, api.Dyadic{Man: api.Int{Neg: true, Mag: []uint32{5, 1}}, Exp: exp})
	}
	return append(all, api.Dyadic{Man: api.Int{Mag: elements(ones(api.MaxBits + 1))}, Exp: -api.MaxBits})
}

// notSmall returns valid dyadics that no small interval ends at.
func notSmall() []api.Dyadic {
	all := []api.Dyadic{dy(1, highest), dy(3, highest-1), wide(ones(highest+1), 0), dy(1, -finest-1), wide(outer(finest+2), -finest-1), wide(ones(finest+10), -finest-1), dy(1, api.MaxExponent), dy(1, -api.MaxExponent), wide(ones(api.MaxBits), api.MaxExponent), wide(ones(api.MaxBits), -api.MaxExponent), wide(outer(api.MaxBits), -api.MaxBits/2)}
	for _, d := range slices.Clone(all) {
		all = append(all, opposite(d))
	}
	return all
}

// strange returns dyadics, most of which are not valid or end no small interval.
func strange() []api.Dyadic {
	lists := [][]uint32{nil, {0}, {0, 0}, {1}, {4}, {7, 0}, {0, 6, 0, 0}, {top, top}, elements(ones(api.MaxBits)), elements(outer(api.MaxBits + 1))}
	exps := []int{0, 1, -1, highest, -finest - 1, api.MaxExponent, -api.MaxExponent, api.MaxExponent + 1, -api.MaxExponent - 1, 2 * api.MaxExponent, -2*api.MaxExponent - 1, api.MaxShift + 1, -api.MaxShift - 1, math.MaxInt32, math.MinInt32, math.MaxInt, math.MaxInt - 1, math.MaxInt - finest, math.MinInt, math.MinInt + 1, math.MinInt + finest}
	all := append(invalid(), notSmall()...)
	for i, mag := range lists {
		for j, exp := range exps {
			all = append(all, api.Dyadic{Man: api.Int{Neg: (i+j)%3 == 0, Mag: mag}, Exp: exp})
		}
	}
	return all
}

// For intervals that are not small, nothing but R1 (an end, and no panic), R2, R4 and R5 holds, whatever the precision.
func TestUnspecifiedArguments(t *testing.T) {
	all := strange()
	ws := slices.Concat(precisions(), outside(), []int{999})
	for i, d := range all {
		w := ws[i*5%len(ws)]
		checkMemory(t, point(d), w)
		checkMemory(t, point(d), i%9)
		checkMemory(t, span(d, all[(i*7+3)%len(all)]), w)
		checkMemory(t, span(api.Dyadic{}, d), i%40)
		checkMemory(t, span(d, dy(1, 0)), i%40)
		checkMemory(t, span(dy(1, 0), d), i%40)
	}
}

// What is not specified is refused at the greatest precision, too, before it is computed.
func TestUnspecifiedArgumentsAreRefused(t *testing.T) {
	for _, d := range append(invalid(), notSmall()...) {
		for _, w := range []int{0, 64, api.MaxWork} {
			for _, a := range []api.Interval{point(d), span(d, dy(1, 0)), span(dy(1, 0), d), span(dy(-1, 0), d), span(d, api.Dyadic{})} {
				checkAtanError(t, a, w, api.ErrLarge)
				checkMemory(t, a, w)
			}
		}
	}
}

// Intervals with Lo greater than Hi are not valid, and so not small: nothing but R1, R2, R4 and R5 holds for them, however large Lo is.
func TestReversedIntervals(t *testing.T) {
	all := every(5, ends())
	for i, lo := range all {
		for _, hi := range all[:i] {
			checkMemory(t, span(lo, hi), i*3)
		}
	}
}

// Whatever the interval is, a precision that is not permitted is refused.
func TestRefusedPrecisionsOfUnspecifiedArguments(t *testing.T) {
	for i, d := range strange() {
		for _, a := range []api.Interval{point(d), span(d, dy(1, 0)), span(dy(1, 0), d)} {
			checkAtanError(t, a, outside()[i%len(outside())], api.ErrArg)
		}
	}
}
