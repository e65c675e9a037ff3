package grid_test

import (
	"math"
	"math/big"
	"slices"
	"testing"

	"exactreal/api"
	"exactreal/grid"
)

// call runs a function of the package with those of its arguments that it needs, and returns its result as lists, a sign and an error among them.
type call func(d api.Dyadic, x api.Rat, p int) [][]uint32

func calls() map[string]call {
	return map[string]call{
		"On":       func(d api.Dyadic, _ api.Rat, p int) [][]uint32 { return [][]uint32{flag(grid.On(d, p))} },
		"Unit":     func(_ api.Dyadic, _ api.Rat, p int) [][]uint32 { return made(grid.Unit(p)) },
		"Floor":    func(d api.Dyadic, _ api.Rat, p int) [][]uint32 { return made(grid.Floor(d, p)) },
		"Ceil":     func(d api.Dyadic, _ api.Rat, p int) [][]uint32 { return made(grid.Ceil(d, p)) },
		"Near":     func(d api.Dyadic, _ api.Rat, p int) [][]uint32 { return made(grid.Near(d, p)) },
		"FloorRat": func(_ api.Dyadic, x api.Rat, p int) [][]uint32 { return made(grid.FloorRat(x, p)) },
		"CeilRat":  func(_ api.Dyadic, x api.Rat, p int) [][]uint32 { return made(grid.CeilRat(x, p)) },
	}
}

// flag makes a list of a result that is none.
func flag(set bool) []uint32 {
	if set {
		return []uint32{1}
	}
	return []uint32{0}
}

// whole makes a list of an int.
func whole(n int) []uint32 {
	return []uint32{uint32(n), uint32(uint64(n) >> 32)}
}

func made(d api.Dyadic, err api.Errno) [][]uint32 {
	return [][]uint32{flag(d.Man.Neg), d.Man.Mag, whole(d.Exp), whole(int(err))}
}

// withRoom returns a copy of a list with room behind its elements, to which a function must not append.
func withRoom(a []uint32) []uint32 {
	return slices.Concat(a, []uint32{5, 6, 7, 8})[:len(a)]
}

// unchanged reports whether a copy of a list is as withRoom made it, with its room.
func unchanged(copied, a []uint32) bool {
	n := len(a) + 4
	return len(copied) == len(a) && slices.Equal(copied[:n], withRoom(a)[:n])
}

// overwrite changes all the memory that lists reach.
func overwrite(lists ...[]uint32) {
	for _, list := range lists {
		all := list[:cap(list)]
		for i := range all {
			all[i] = ^all[i]
		}
	}
}

// equal reports whether two calls have equal results.
func equal(a, b [][]uint32) bool {
	return slices.EqualFunc(a, b, slices.Equal)
}

func cloned(lists [][]uint32) [][]uint32 {
	var all [][]uint32
	for _, list := range lists {
		all = append(all, slices.Clone(list))
	}
	return all
}

// checkMemory checks rules R2 and R5: arguments stay as they are, results share no memory with them or with those of another call, and equal calls have equal results. The result of a refused call must be zero (R4).
func checkMemory(t *testing.T, name string, f call, d api.Dyadic, x api.Rat, p int) {
	t.Helper()
	man, num, den := withRoom(d.Man.Mag), withRoom(x.Num.Mag), withRoom(x.Den)
	argument := api.Dyadic{Man: api.Int{Neg: d.Man.Neg, Mag: man}, Exp: d.Exp}
	fraction := api.Rat{Num: api.Int{Neg: x.Num.Neg, Mag: num}, Den: den}
	first, second := f(argument, fraction, p), f(argument, fraction, p)
	kept := cloned(second)
	if !equal(first, kept) {
		t.Errorf("%s(%s, %s, %d): different results", name, shortDyadic(d), valueRat(x), p)
	}
	if len(first) > 1 && !equal(first[3:], made(api.Dyadic{}, api.OK)[3:]) && !equal(first[:3], made(api.Dyadic{}, api.OK)[:3]) {
		t.Errorf("%s(%s, %s, %d) has a result besides an error", name, shortDyadic(d), valueRat(x), p)
	}
	overwrite(first...)
	if !unchanged(man, d.Man.Mag) || !unchanged(num, x.Num.Mag) || !unchanged(den, x.Den) {
		t.Errorf("%s(%s, %s, %d) changes an argument or shares memory with it", name, shortDyadic(d), valueRat(x), p)
	}
	overwrite(man, num, den)
	if !equal(second, kept) {
		t.Errorf("%s(%s, %s, %d): results share memory with an argument or with those of another call", name, shortDyadic(d), valueRat(x), p)
	}
	if third := f(d, x, p); !equal(third, kept) {
		t.Errorf("%s(%s, %s, %d): another result, after earlier ones have been overwritten", name, shortDyadic(d), valueRat(x), p)
	}
}

func TestMemory(t *testing.T) {
	fractions := []api.Rat{rat(0, 1), rat(1, 1), rat(-6, 1), rat(1, 3), rat(-5, 8), frac(ones(100), ends(90)), frac(negative(ends(300)), power(40))}
	for name, f := range calls() {
		for i, d := range samples() {
			x := fractions[i%len(fractions)]
			for _, p := range []int{-d.Exp, -d.Exp - 1, -d.Exp + 1, 0, 7, -7, coarsest, finest, finest + 1} {
				checkMemory(t, name, f, d, x, p)
			}
		}
		for _, d := range long() {
			for _, p := range []int{coarsest, 0, finest} {
				checkMemory(t, name, f, d, frac(number(d.Man.Neg, d.Man.Mag), big.NewInt(1)), p)
			}
		}
	}
}

// For dyadics and fractions that are not valid, nothing but R1 (an end, and no panic), R2, R4 and R5 holds, whatever the precision.
func TestUnspecifiedArguments(t *testing.T) {
	lists := [][]uint32{nil, {}, {0}, {0, 0}, {1}, {4}, {7, 0}, {0, 6, 0, 0}, {top, top}, elements(ones(api.MaxBits + 1))}
	exponents := []int{0, 1, -1, highest + 1, lowest - 1, 2 * highest, 2*lowest - 1, api.MaxShift, api.MaxShift + 1, -api.MaxShift, -api.MaxShift - 1, math.MaxInt32, math.MinInt32, math.MaxInt, math.MaxInt - 1, math.MaxInt - finest, math.MinInt, math.MinInt + 1, math.MinInt - coarsest}
	all := append(outside(), 0, 1, -1, 32, coarsest, finest)
	for name, f := range calls() {
		for i, mag := range lists {
			for j, other := range append(exponents, 5) {
				den := lists[(i+j)%len(lists)]
				for _, neg := range []bool{false, true} {
					d := api.Dyadic{Man: api.Int{Neg: neg, Mag: mag}, Exp: other}
					x := api.Rat{Num: api.Int{Neg: neg, Mag: mag}, Den: den}
					for _, p := range all {
						checkMemory(t, name, f, d, x, p)
					}
				}
			}
		}
	}
}

// On and the functions with an error refuse the same precisions, whatever the other argument is.
func TestRefusedPrecisions(t *testing.T) {
	refused := map[string][][]uint32{"On": {flag(false)}}
	for name, f := range calls() {
		want := refused[name]
		if want == nil {
			want = made(api.Dyadic{}, api.ErrArg)
		}
		for _, p := range outside() {
			for _, d := range []api.Dyadic{{}, dy(1, 0), dy(-3, highest), {Man: api.Int{Neg: true}, Exp: math.MinInt}, {Man: api.Int{Mag: []uint32{0, 0}}, Exp: math.MaxInt}} {
				for _, x := range []api.Rat{rat(0, 1), rat(-7, 3), {}, {Num: toInt(big.NewInt(4)), Den: []uint32{6, 0}}} {
					if got := f(d, x, p); !equal(got, want) {
						t.Errorf("%s(%s, %s, %d) = %v", name, shortDyadic(d), valueRat(x), p, got)
					}
				}
			}
		}
	}
}
