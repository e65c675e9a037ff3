package nat_test

import (
	"math"
	"math/big"
	"slices"
	"testing"

	"exactreal/api"
	"exactreal/nat"
)

const top = math.MaxUint32

// value returns the number that a list stands for, whether it is a natural or not.
func value(a []uint32) *big.Int {
	v := new(big.Int)
	for _, word := range slices.Backward(a) {
		v.Lsh(v, 32).Or(v, big.NewInt(int64(word)))
	}
	return v
}

// natural returns the natural of a number that is not negative.
func natural(v *big.Int) []uint32 {
	var a []uint32
	for rest := new(big.Int).Set(v); rest.Sign() > 0; rest.Rsh(rest, 32) {
		a = append(a, uint32(rest.Uint64()))
	}
	return a
}

// lists returns all lists of at most n elements from words.
func lists(n int, words ...uint32) [][]uint32 {
	all := [][]uint32{nil}
	longest := all
	for range n {
		var longer [][]uint32
		for _, a := range longest {
			for _, word := range words {
				longer = append(longer, append(slices.Clone(a), word))
			}
		}
		all = append(all, longer...)
		longest = longer
	}
	return all
}

// naturals returns those of lists that are naturals.
func naturals(n int, words ...uint32) [][]uint32 {
	return slices.DeleteFunc(lists(n, words...), func(a []uint32) bool {
		return len(a) > 0 && a[len(a)-1] == 0
	})
}

// places returns numbers of places around the borders of elements.
func places() []int {
	var n []int
	for border := 0; border <= 160; border += 32 {
		n = append(n, border-1, border, border+1, border+13)
	}
	return n[1:]
}

func same(t *testing.T, call string, got, want []uint32, args ...any) {
	t.Helper()
	if !slices.Equal(got, want) {
		t.Errorf("%s%v = %v, want %v", call, args, got, want)
	}
}

func equal[T comparable](t *testing.T, call string, got, want T, args ...any) {
	t.Helper()
	if got != want {
		t.Errorf("%s%v = %v, want %v", call, args, got, want)
	}
}

// P1.1

func TestValid(t *testing.T) {
	for _, a := range lists(4, 0, 1, top) {
		equal(t, "Valid", nat.Valid(a), len(a) == 0 || a[len(a)-1] != 0, a)
	}
	equal(t, "Valid", nat.Valid([]uint32{}), true, "empty")
	equal(t, "Valid", nat.Valid([]uint32{0, 0, 7}), true, "zeros below")
	equal(t, "Valid", nat.Valid([]uint32{0}), false, "0")
	equal(t, "Valid", nat.Valid([]uint32{7, 0, 0}), false, "zeros above")
}

func TestTrim(t *testing.T) {
	same(t, "Trim", nat.Trim([]uint32{5, 0, 0}), []uint32{5})
	same(t, "Trim", nat.Trim([]uint32{0, 0, 0}), nil)
	same(t, "Trim", nat.Trim(nil), nil)
	for _, a := range lists(4, 0, 1, top) {
		same(t, "Trim", nat.Trim(a), natural(value(a)), a)
	}
}

func TestOfAndUint(t *testing.T) {
	for _, n := range []uint64{0, 1, 8, top - 1, top, top + 1, 1 << 33, 0xfedcba9876543210, 1 << 63, math.MaxUint64 - 1, math.MaxUint64} {
		a := natural(new(big.Int).SetUint64(n))
		same(t, "Of", nat.Of(n), a, n)
		got, ok := nat.Uint(a)
		equal(t, "Uint", got, n, a)
		equal(t, "Uint", ok, true, a)
	}
}

func TestUintTooLarge(t *testing.T) {
	for _, a := range [][]uint32{{0, 0, 1}, {5, 6, 7}, {top, top, 1}, {0, 0, 0, 1}} {
		got, ok := nat.Uint(a)
		equal(t, "Uint", got, 0, a)
		equal(t, "Uint", ok, false, a)
	}
}

// P1.2

func TestCmpAddSub(t *testing.T) {
	all := naturals(4, 0, 1, 1<<31, top)
	for _, a := range all {
		for _, b := range all {
			x, y := value(a), value(b)
			equal(t, "Cmp", nat.Cmp(a, b), x.Cmp(y), a, b)
			same(t, "Add", nat.Add(a, b), natural(new(big.Int).Add(x, y)), a, b)
			checkSub(t, a, b)
		}
	}
}

func checkSub(t *testing.T, a, b []uint32) {
	t.Helper()
	difference := new(big.Int).Sub(value(a), value(b))
	got, ok := nat.Sub(a, b)
	equal(t, "Sub", ok, difference.Sign() >= 0, a, b)
	if difference.Sign() < 0 {
		difference.SetInt64(0)
	}
	same(t, "Sub", got, natural(difference), a, b)
}

func TestCarries(t *testing.T) {
	same(t, "Add", nat.Add([]uint32{top}, []uint32{1}), []uint32{0, 1})
	same(t, "Add", nat.Add([]uint32{1}, []uint32{top, top, top}), []uint32{0, 0, 0, 1})
	same(t, "Add", nat.Add([]uint32{top, top}, []uint32{top, top}), []uint32{top - 1, top, 1})
	same(t, "Add", nat.Add(nil, nil), nil)
	for _, b := range [][]uint32{nil, {1}, {1, 0, 0, 1}, {0, 0, 1}, {0, 0, 0, 0, 1}} {
		checkSub(t, []uint32{0, 0, 0, 1}, b)
	}
}

func TestSubReversesAdd(t *testing.T) {
	all := naturals(3, 0, 1, 0x12345678, top)
	for _, a := range all {
		for _, b := range all {
			got, ok := nat.Sub(nat.Add(a, b), b)
			same(t, "Sub", got, a, a, b)
			equal(t, "Sub", ok, true, a, b)
		}
	}
}

// P1.3

func TestShifts(t *testing.T) {
	for _, a := range naturals(4, 0, 1, 0xdeadbeef, top) {
		for _, n := range places() {
			checkShifts(t, a, n)
		}
	}
}

func checkShifts(t *testing.T, a []uint32, n int) {
	t.Helper()
	v, unit := value(a), new(big.Int).Lsh(big.NewInt(1), uint(n))
	same(t, "Shl", nat.Shl(a, n), natural(new(big.Int).Mul(v, unit)), a, n)
	quotient, rest := new(big.Int).DivMod(v, unit, new(big.Int))
	same(t, "Shr", nat.Shr(a, n), natural(quotient), a, n)
	same(t, "Low", nat.Low(a, n), natural(rest), a, n)
	same(t, "Add(Shl(Shr), Low)", nat.Add(nat.Shl(nat.Shr(a, n), n), nat.Low(a, n)), a, a, n)
}

func TestLongestShift(t *testing.T) {
	long := make([]uint32, api.MaxShift/32+2)
	long[0], long[len(long)-2], long[len(long)-1] = 9, 6, 5
	for _, n := range []int{api.MaxShift - 1, api.MaxShift} {
		checkShifts(t, nil, n)
		checkShifts(t, []uint32{1, top}, n)
		checkShifts(t, long, n)
	}
}

func TestDigits(t *testing.T) {
	for _, a := range naturals(4, 0, 1, 0xdeadbeef, 1<<31, top) {
		v := value(a)
		equal(t, "Bits", nat.Bits(a), v.BitLen(), a)
		equal(t, "Zeros", nat.Zeros(a), int(v.TrailingZeroBits()), a)
		for i := -2; i <= 32*len(a)+70; i++ {
			equal(t, "Bit", nat.Bit(a, i), i >= 0 && v.Bit(max(i, 0)) == 1, a, i)
		}
		for _, i := range []int{math.MinInt, -32, -33, api.MaxShift, math.MaxInt} {
			equal(t, "Bit", nat.Bit(a, i), false, a, i)
		}
	}
}

func TestDigitsOfPowers(t *testing.T) {
	equal(t, "Bits", nat.Bits(nat.Of(8)), 4)
	equal(t, "Zeros", nat.Zeros(nat.Of(8)), 3)
	for n := range 130 {
		power := natural(new(big.Int).Lsh(big.NewInt(1), uint(n)))
		equal(t, "Bits", nat.Bits(power), n+1, n)
		equal(t, "Zeros", nat.Zeros(power), n, n)
		equal(t, "Bit", nat.Bit(power, n), true, n)
		equal(t, "Bit", nat.Bit(power, n+1), false, n)
	}
}
