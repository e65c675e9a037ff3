package constant_test

import (
	"math"
	"slices"
	"testing"

	"exactreal/api"
	"exactreal/constant"
)

// withRoom returns a copy of a list with room behind its elements, to which a function must not append.
func withRoom(a []uint32) []uint32 {
	return slices.Concat(a, []uint32{5, 6, 7, 8})[:len(a)]
}

// unchanged reports whether a copy of a list is as withRoom made it, with its room.
func unchanged(copied, a []uint32) bool {
	n := len(a) + 4
	return len(copied) == len(a) && slices.Equal(copied[:n], withRoom(a)[:n])
}

func roomy(a api.Interval) api.Interval {
	a.Lo.Man.Mag, a.Hi.Man.Mag = withRoom(a.Lo.Man.Mag), withRoom(a.Hi.Man.Mag)
	return a
}

func cloned(a api.Interval) api.Interval {
	a.Lo.Man.Mag, a.Hi.Man.Mag = slices.Clone(a.Lo.Man.Mag), slices.Clone(a.Hi.Man.Mag)
	return a
}

// overwrite changes all the memory that a list reaches.
func overwrite(list []uint32) {
	all := list[:cap(list)]
	for i := range all {
		all[i] = ^all[i]
	}
}

// overwriteEnds changes the memory of both ends of a result, which must not be the same.
func overwriteEnds(t *testing.T, about string, a api.Interval) {
	t.Helper()
	kept := slices.Clone(a.Hi.Man.Mag)
	overwrite(a.Lo.Man.Mag)
	if !slices.Equal(a.Hi.Man.Mag, kept) {
		t.Errorf("%s: the ends of the result share memory", about)
	}
	overwrite(a.Hi.Man.Mag)
}

// R2, R4 and R5 of the constants: results share no memory with each other or with those of another call, and equal calls have equal results, whatever a caller does with the earlier ones.
func TestMemoryOfConstants(t *testing.T) {
	for name, f := range constants() {
		for _, w := range slices.Concat([]int{0, 1, 2, 3, 31, 32, 64, 500, api.MaxWork, api.MaxWork + 1, most}, outside()) {
			first, err := f(w)
			second, _ := f(w)
			kept := cloned(second)
			if !identical(first, kept) {
				t.Errorf("%s(%d): different results", name, w)
			}
			overwriteEnds(t, name, first)
			if !identical(second, kept) {
				t.Errorf("%s(%d): results of two calls share memory", name, w)
			}
			if third, again := f(w); !identical(third, kept) || again != err {
				t.Errorf("%s(%d): another result, after an earlier one has been overwritten", name, w)
			}
		}
	}
}

// The precisions in between are found with the same numbers, even if a caller has changed a result for another precision.
func TestMemoryOfOtherPrecisions(t *testing.T) {
	numbers := known()
	for name, f := range constants() {
		for _, w := range []int{most, 1000, 33, 2} {
			a, _ := f(w)
			overwriteEnds(t, name, a)
			for _, v := range []int{0, 2, 40, 1001, most} {
				b, err := f(v)
				checkConstant(t, name, v, b, err, numbers[name])
			}
		}
	}
}

// checkArgument checks rules R2 and R5 for Tight: its argument stays as it is, and equal calls have equal results.
func checkArgument(t *testing.T, a api.Interval, w int, want bool) {
	t.Helper()
	given := roomy(a)
	checkTight(t, given, w, want)
	checkTight(t, given, w, want)
	if !unchanged(given.Lo.Man.Mag, a.Lo.Man.Mag) || !unchanged(given.Hi.Man.Mag, a.Hi.Man.Mag) {
		t.Errorf("Tight(%s, %d): an argument is changed", shortSpan(a), w)
	}
}

func TestMemoryOfTight(t *testing.T) {
	for _, w := range tightPrecisions() {
		for _, n := range starts() {
			for count := int64(-1); count <= 3; count++ {
				checkArgument(t, units(n, count, w), w, 0 <= count && count <= 2)
				checkArgument(t, units(n, count, w), -w-1, false)
			}
		}
	}
}

// invalid returns dyadics that are not valid, most of which stand for a number on the grid.
func invalid() []api.Dyadic {
	all := []api.Dyadic{{Exp: 1}, {Exp: -1}, {Exp: math.MinInt}, {Exp: math.MaxInt}, {Man: api.Int{Neg: true}}, {Man: api.Int{Mag: []uint32{0}}}, {Man: api.Int{Neg: true, Mag: []uint32{0, 0}}, Exp: 3}, {Man: api.Int{Mag: []uint32{1, 0}}}, {Man: api.Int{Neg: true, Mag: []uint32{3, 7, 0}}}, {Man: api.Int{Mag: []uint32{0, 1}}}, {Man: api.Int{Mag: []uint32{0, 1}}, Exp: -32}}
	for _, even := range []uint32{2, 4, 6, top - 1} {
		all = append(all, api.Dyadic{Man: api.Int{Mag: []uint32{even}}}, api.Dyadic{Man: api.Int{Neg: true, Mag: []uint32{even, 1}}, Exp: -1})
	}
	for _, exp := range []int{api.MaxExponent + 1, -api.MaxExponent - 1, api.MaxShift + 1, -api.MaxShift - 1, math.MaxInt32, math.MinInt32, math.MaxInt, math.MaxInt - 1, math.MinInt, math.MinInt + 1, math.MinInt + most} {
		all = append(all, api.Dyadic{Man: api.Int{Mag: []uint32{1}}, Exp: exp}, api.Dyadic{Man: api.Int{Neg: true, Mag: []uint32{5, 1}}, Exp: exp})
	}
	return append(all, api.Dyadic{Man: api.Int{Mag: elements(ones(api.MaxBits + 1))}}, api.Dyadic{Man: api.Int{Mag: elements(outer(api.MaxBits + 2))}, Exp: -api.MaxBits})
}

// Intervals with an end that is not valid are not tight, though some would be by the numbers that they stand for.
func TestTightOfEndsThatAreNotValid(t *testing.T) {
	others := append(invalid(), dy(0, 0), dy(1, 0), dy(2, 0), dy(-1, 0), dy(1, -1), dy(1, api.MaxExponent), dy(1, -api.MaxExponent))
	ws := append(tightPrecisions(), outside()...)
	for i, d := range invalid() {
		for j, other := range others {
			w := ws[(i*7+j)%len(ws)]
			for _, v := range []int{0, 1, w} {
				checkArgument(t, span(d, other), v, false)
				checkArgument(t, span(other, d), v, false)
			}
		}
		for _, w := range ws {
			checkArgument(t, point(d), w, false)
		}
	}
}

// One list as the memory of both ends stays as it is, too.
func TestMemoryThatArgumentsShare(t *testing.T) {
	for _, d := range []api.Dyadic{dy(1, 0), dy(-3, 2), dy(5, -7), wide(ones(1000), -9)} {
		list := withRoom(d.Man.Mag)
		shared := point(api.Dyadic{Man: api.Int{Neg: d.Man.Neg, Mag: list}, Exp: d.Exp})
		for _, w := range []int{0, 7, 9, most} {
			want := isTight(point(d), w)
			if got := constant.Tight(shared, w); got != want || !unchanged(list, d.Man.Mag) {
				t.Errorf("Tight(%s, %d) = %t, or the argument is changed", shortSpan(shared), w, got)
			}
		}
	}
}
