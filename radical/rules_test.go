package radical_test

import (
	"math"
	"math/big"
	"slices"
	"testing"

	"exactreal/api"
	"exactreal/radical"
)

// outcome is what a call has returned: an interval, or one number as its lower end, and an error.
type outcome struct {
	a   api.Interval
	err api.Errno
}

// call runs a function of the package with those of its arguments that it needs.
type call func(a api.Interval, n, w int) outcome

func calls() map[string]call {
	return map[string]call{
		"SqrtFloor": func(a api.Interval, _, w int) outcome { return found(radical.SqrtFloor(a.Lo, w)) },
		"SqrtCeil":  func(a api.Interval, _, w int) outcome { return found(radical.SqrtCeil(a.Hi, w)) },
		"Sqrt":      func(a api.Interval, _, w int) outcome { return made(radical.Sqrt(a, w)) },
		"Power":     func(a api.Interval, n, w int) outcome { return made(radical.Power(a, n, w)) },
		"Power 0":   func(a api.Interval, _, w int) outcome { return made(radical.Power(a, 0, w)) },
		"Power 1":   func(a api.Interval, _, w int) outcome { return made(radical.Power(a, 1, w)) },
		"Power 2":   func(a api.Interval, _, w int) outcome { return made(radical.Power(a, 2, w)) },
		"Power -1":  func(a api.Interval, _, w int) outcome { return made(radical.Power(a, -1, w)) },
	}
}

func found(d api.Dyadic, err api.Errno) outcome {
	return outcome{a: api.Interval{Lo: d}, err: err}
}

func made(a api.Interval, err api.Errno) outcome {
	return outcome{a: a, err: err}
}

// equal reports whether two calls have equal results.
func equal(x, y outcome) bool {
	return identical(x.a, y.a) && x.err == y.err
}

// withRoom returns a copy of a list with room behind its elements, to which a function must not append.
func withRoom(a []uint32) []uint32 {
	return slices.Concat(a, []uint32{5, 6, 7, 8})[:len(a)]
}

// unchanged reports whether a copy of a list is as withRoom made it, with its room.
func unchanged(copied, a []uint32) bool {
	n := len(a) + 4
	return len(copied) == len(a) && slices.Equal(copied[:n], withRoom(a)[:n])
}

func roomy(a api.Interval) api.Interval {
	a.Lo.Man.Mag, a.Hi.Man.Mag = withRoom(a.Lo.Man.Mag), withRoom(a.Hi.Man.Mag)
	return a
}

func cloned(x outcome) outcome {
	x.a.Lo.Man.Mag, x.a.Hi.Man.Mag = slices.Clone(x.a.Lo.Man.Mag), slices.Clone(x.a.Hi.Man.Mag)
	return x
}

// overwrite changes all the memory that a list reaches.
func overwrite(list []uint32) {
	all := list[:cap(list)]
	for i := range all {
		all[i] = ^all[i]
	}
}

// overwriteEnds changes the memory of both ends of a result, which must not be the same.
func overwriteEnds(t *testing.T, about string, a api.Interval) {
	t.Helper()
	kept := slices.Clone(a.Hi.Man.Mag)
	overwrite(a.Lo.Man.Mag)
	if !slices.Equal(a.Hi.Man.Mag, kept) {
		t.Errorf("%s: the ends of the result share memory", about)
	}
	overwrite(a.Hi.Man.Mag)
}

// checkMemory checks rules R2, R4 and R5: arguments stay as they are, results share no memory with them, with each other or with those of another call, those besides an error are zero, and equal calls have equal results.
func checkMemory(t *testing.T, name string, f call, a api.Interval, n, w int) {
	t.Helper()
	about := name + " of " + shortSpan(a) + ", " + big.NewInt(int64(n)).String() + " at " + big.NewInt(int64(w)).String()
	given := roomy(a)
	first, second := f(given, n, w), f(given, n, w)
	kept := cloned(second)
	if !equal(first, kept) {
		t.Errorf("%s: different results", about)
	}
	if first.err != api.OK && !equal(first, outcome{err: first.err}) {
		t.Errorf("%s: a result besides an error", about)
	}
	overwriteEnds(t, about, first.a)
	if !unchanged(given.Lo.Man.Mag, a.Lo.Man.Mag) || !unchanged(given.Hi.Man.Mag, a.Hi.Man.Mag) {
		t.Errorf("%s: an argument is changed, or shares memory with the result", about)
	}
	overwrite(given.Lo.Man.Mag)
	overwrite(given.Hi.Man.Mag)
	if !equal(second, kept) {
		t.Errorf("%s: results share memory with an argument or with those of another call", about)
	}
	if third := f(a, n, w); !equal(third, kept) {
		t.Errorf("%s: another result, after earlier ones have been overwritten", about)
	}
}

func TestMemory(t *testing.T) {
	all := slices.Concat(spans(every(3, samples())), spans(every(4, extremes())), spans(quarters(10)))
	ns := append(exponents()[:12], outsidePowers()[:2]...)
	ws := append(precisions(), outside()[:3]...)
	for name, f := range calls() {
		for i, a := range all {
			checkMemory(t, name, f, a, ns[i%len(ns)], ws[i/2%len(ws)])
		}
	}
}

// Points, the ends of which are equal, and whose roots and powers are exact at some of the precisions.
func TestMemoryOfPoints(t *testing.T) {
	for name, f := range calls() {
		for i, d := range slices.Concat(samples(), quarters(16)) {
			for _, w := range []int{0, 60, api.MaxWork, api.MaxWork + 1} {
				checkMemory(t, name, f, point(d), i%9-4, w)
			}
		}
	}
}

// One list as the memory of both ends must not be that of a result.
func TestMemoryThatArgumentsShare(t *testing.T) {
	for name, f := range calls() {
		for _, d := range []api.Dyadic{dy(1, 0), dy(9, -4), dy(-3, 5), dy(5, -2), wide(outer(100), -7), wide(square(outer(70)), -8), wide(negative(ones(1000)), 40)} {
			for n := -3; n <= 3; n++ {
				list := withRoom(d.Man.Mag)
				shared := point(api.Dyadic{Man: api.Int{Neg: d.Man.Neg, Mag: list}, Exp: d.Exp})
				result := f(shared, n, 7)
				kept := cloned(result)
				overwriteEnds(t, name, result.a)
				if !unchanged(list, d.Man.Mag) {
					t.Errorf("%s of %s: an argument is changed, or shares memory with the result", name, short(d))
				}
				if again := f(shared, n, 7); !equal(again, kept) {
					t.Errorf("%s of %s: different results", name, short(d))
				}
			}
		}
	}
}

// invalid returns dyadics that are not valid, each in one respect, though most of them stand for ends of small intervals.
func invalid() []api.Dyadic {
	all := []api.Dyadic{{Exp: 1}, {Exp: -1}, {Exp: math.MinInt}, {Exp: math.MaxInt}, {Man: api.Int{Neg: true}}, {Man: api.Int{Mag: []uint32{0}}}, {Man: api.Int{Mag: []uint32{1, 0}}}, {Man: api.Int{Neg: true, Mag: []uint32{3, 7, 0}}, Exp: -2}, {Man: api.Int{Mag: []uint32{0, 1}}}}
	for _, even := range []uint32{2, 4, 6, top - 1} {
		all = append(all, api.Dyadic{Man: api.Int{Mag: []uint32{even}}}, api.Dyadic{Man: api.Int{Neg: true, Mag: []uint32{even, 1}}, Exp: -3})
	}
	for _, exp := range []int{api.MaxExponent + 1, -api.MaxExponent - 1, math.MaxInt, math.MaxInt - 1, math.MinInt, math.MinInt + 1} {
		all = append(all, api.Dyadic{Man: api.Int{Mag: []uint32{1}}, Exp: exp}, api.Dyadic{Man: api.Int{Neg: true, Mag: []uint32{5, 1}}, Exp: exp})
	}
	return append(all, api.Dyadic{Man: api.Int{Mag: elements(ones(api.MaxBits + 1))}, Exp: -api.MaxBits})
}

// notSmall returns valid dyadics that no small interval ends at.
func notSmall() []api.Dyadic {
	all := []api.Dyadic{dy(1, highest), dy(3, highest-1), wide(ones(highest+1), 0), dy(1, -finest-1), wide(outer(finest+2), -finest-1), dy(1, api.MaxExponent), dy(1, -api.MaxExponent), wide(ones(api.MaxBits), api.MaxExponent), wide(ones(api.MaxBits), -api.MaxExponent), wide(outer(api.MaxBits), -api.MaxBits/2)}
	for _, d := range slices.Clone(all) {
		all = append(all, opposite(d))
	}
	return all
}

// strange returns dyadics that no small interval ends at, most of which are not valid.
func strange() []api.Dyadic {
	lists := [][]uint32{nil, {0}, {0, 0}, {1}, {4}, {7, 0}, {0, 6, 0, 0}, {top, top}, elements(ones(api.MaxBits)), elements(outer(api.MaxBits + 1))}
	exps := []int{0, 1, -1, highest, -finest - 1, api.MaxExponent, -api.MaxExponent, api.MaxExponent + 1, -api.MaxExponent - 1, 2 * api.MaxExponent, -2*api.MaxExponent - 1, api.MaxShift + 1, -api.MaxShift - 1, math.MaxInt32, math.MinInt32, math.MaxInt, math.MaxInt - 1, math.MaxInt - finest, math.MinInt, math.MinInt + 1, math.MinInt + highest}
	all := append(invalid(), notSmall()...)
	for i, mag := range lists {
		for j, exp := range exps {
			all = append(all, api.Dyadic{Man: api.Int{Neg: (i+j)%2 == 0, Mag: mag}, Exp: exp})
		}
	}
	return all
}

// For intervals that are not small, nothing but R1 (an end, and no panic), R2, R4 and R5 holds, whatever the precision and the exponent.
func TestUnspecifiedArguments(t *testing.T) {
	ends := strange()
	ws := append(precisions(), outside()...)
	ns := append(exponents(), outsidePowers()...)
	for name, f := range calls() {
		for i, d := range ends {
			n, w := ns[i%len(ns)], ws[i*5%len(ws)]
			checkMemory(t, name, f, point(d), n, w)
			checkMemory(t, name, f, span(d, ends[(i*7+3)%len(ends)]), n, w)
			checkMemory(t, name, f, point(d), i%(2*api.MaxPower+1)-api.MaxPower, i%3)
			checkMemory(t, name, f, span(api.Dyadic{}, d), api.MaxPower-i%5, 0)
			checkMemory(t, name, f, span(d, dy(1, 0)), i%5-api.MaxPower, 0)
		}
	}
}

// The powers of intervals that are not small are refused before they are computed, as they might be too long.
func TestPowersOfIntervalsThatAreNotSmall(t *testing.T) {
	for _, d := range notSmall() {
		for _, n := range []int{0, 1, 5, api.MaxPower, -1, -api.MaxPower} {
			got, err := radical.Power(point(d), n, 10)
			checkSpan(t, powerText(n), point(d), 10, got, err, api.Interval{}, api.ErrLarge)
		}
	}
}

// Intervals with Lo greater than Hi are not valid, and so not small: nothing but R1, R2, R4 and R5 holds for them.
func TestReversedIntervals(t *testing.T) {
	ends := slices.Concat(every(9, samples()), every(3, extremes()))
	for name, f := range calls() {
		for i, lo := range ends {
			for j, hi := range ends {
				checkMemory(t, name, f, span(lo, hi), (i*5+j)%9-4, 10*j)
			}
		}
	}
}

// Whatever the other arguments are, a precision or an exponent that is not permitted is refused.
func TestRefusalsOfUnspecifiedArguments(t *testing.T) {
	huge := api.Dyadic{Man: api.Int{Neg: true, Mag: []uint32{4, 0}}, Exp: math.MinInt}
	none := api.Dyadic{Man: api.Int{Mag: []uint32{0, 0}}, Exp: math.MaxInt}
	all := []api.Interval{whole(1, -1), point(huge), point(none), span(none, huge), span(dy(1, 0), huge)}
	for _, d := range notSmall() {
		all = append(all, point(d), span(d, dy(1, 0)))
	}
	ns := append(exponents(), outsidePowers()...)
	for name, f := range calls() {
		for i, a := range all {
			for _, w := range outside() {
				n := ns[i%len(ns)]
				if got := f(a, n, w); !equal(got, outcome{err: api.ErrArg}) {
					t.Errorf("%s of %s, %d at %d is %s, error %d", name, shortSpan(a), n, w, shortSpan(got.a), got.err)
				}
			}
		}
	}
	for _, a := range all {
		for _, n := range outsidePowers() {
			got, err := radical.Power(a, n, 3)
			checkSpan(t, powerText(n), a, 3, got, err, api.Interval{}, api.ErrArg)
		}
	}
}
