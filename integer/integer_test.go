package integer_test

import (
	"encoding/binary"
	"math"
	"math/big"
	"math/rand/v2"
	"slices"
	"testing"

	"exactreal/api"
	"exactreal/integer"
)

const top = math.MaxUint32

// value returns the number that x stands for, whether it is valid or not.
func value(x api.Int) *big.Int {
	var digits []byte
	for _, word := range slices.Backward(x.Mag) {
		digits = binary.BigEndian.AppendUint32(digits, word)
	}
	v := new(big.Int).SetBytes(digits)
	if x.Neg {
		v.Neg(v)
	}
	return v
}

// of returns the valid integer of a number, made without the package.
func of(v *big.Int) api.Int {
	x := api.Int{Neg: v.Sign() < 0}
	digits := v.FillBytes(make([]byte, (v.BitLen()+31)/32*4))
	for i := len(digits); i > 0; i -= 4 {
		x.Mag = append(x.Mag, binary.BigEndian.Uint32(digits[i-4:]))
	}
	return x
}

// valid tells what chapter 5 calls valid, without the package.
func valid(x api.Int) bool {
	if len(x.Mag) == 0 {
		return !x.Neg
	}
	return x.Mag[len(x.Mag)-1] != 0
}

// stands reports whether x is the valid integer with the value v.
func stands(x api.Int, v *big.Int) bool {
	return valid(x) && value(x).Cmp(v) == 0
}

func check(t *testing.T, call string, got api.Int, want *big.Int, args ...any) {
	t.Helper()
	if !stands(got, want) {
		t.Errorf("%s%v = %v, want the integer %v", call, args, got, want)
	}
}

// lists returns naturals of 0 to 8 elements, the same ones whenever it is called.
func lists() [][]uint32 {
	all := [][]uint32{nil, {1}, {2}, {3}, {7}, {8}, {10}, {1 << 31}, {top}, {0, 1}, {1, 1}, {top, top}, {0, 1 << 31}, {0, 0, 1}, {1, 0, 1}, {top, top, top}, {0, top, 0, 1}}
	random := rand.New(rand.NewPCG(5, 1))
	for n := 1; n <= 8; n++ {
		a := make([]uint32, n)
		for i := range a {
			a[i] = random.Uint32() >> random.IntN(32)
		}
		a[n-1] |= 1
		all = append(all, a)
	}
	return all
}

// samples returns the integers of lists with both signs, where they are valid.
func samples() []api.Int {
	all := []api.Int{{}}
	for _, a := range lists()[1:] {
		all = append(all, api.Int{Mag: a}, api.Int{Neg: true, Mag: a})
	}
	return all
}

// small returns n as a number, for the checks against math/big.
func small(n int) *big.Int {
	return big.NewInt(int64(n))
}

// P5.1

func TestValid(t *testing.T) {
	for _, c := range []struct {
		x    api.Int
		want bool
	}{
		{api.Int{}, true}, {api.Int{Mag: []uint32{}}, true}, {api.Int{Neg: true}, false}, {api.Int{Neg: true, Mag: []uint32{}}, false},
		{api.Int{Mag: []uint32{0}}, false}, {api.Int{Neg: true, Mag: []uint32{0}}, false}, {api.Int{Mag: []uint32{0, 0}}, false},
		{api.Int{Mag: []uint32{7, 0}}, false}, {api.Int{Neg: true, Mag: []uint32{7, 0}}, false}, {api.Int{Mag: []uint32{0, 7, 0, 0}}, false},
		{api.Int{Mag: []uint32{0, 7}}, true}, {api.Int{Neg: true, Mag: []uint32{0, 7}}, true}, {api.Int{Neg: true, Mag: []uint32{1}}, true},
	} {
		if got := integer.Valid(c.x); got != c.want {
			t.Errorf("Valid(%v) = %v", c.x, got)
		}
	}
	for _, x := range samples() {
		if !integer.Valid(x) {
			t.Errorf("Valid(%v) = false", x)
		}
	}
}

// ints returns ints around both ends, zero and the borders of an element.
func ints() []int {
	all := []int{math.MinInt, math.MinInt + 1, math.MinInt + 2, math.MaxInt - 2, math.MaxInt - 1, math.MaxInt}
	for _, border := range []int{0, 1 << 16, math.MaxInt32, math.MinInt32, 1 << 32, -1 << 32, 1 << 40, -1 << 40} {
		for d := -3; d <= 3; d++ {
			all = append(all, border+d)
		}
	}
	return all
}

func TestOf(t *testing.T) {
	for _, n := range ints() {
		check(t, "Of", integer.Of(n), small(n), n)
	}
}

func TestOfTheLeastInt(t *testing.T) {
	if x := integer.Of(math.MinInt64); !x.Neg || !slices.Equal(x.Mag, []uint32{0, 1 << 31}) {
		t.Errorf("Of(-2^63) = %v", x)
	}
}

func TestNat(t *testing.T) {
	for _, a := range lists() {
		for zeros := range 3 {
			list := slices.Concat(a, make([]uint32, zeros))
			v := value(api.Int{Mag: list})
			check(t, "Nat", integer.Nat(false, list), v, false, list)
			check(t, "Nat", integer.Nat(true, list), new(big.Int).Neg(v), true, list)
		}
	}
}

func TestNatOfZero(t *testing.T) {
	for _, zero := range [][]uint32{nil, {}, {0}, {0, 0}, {0, 0, 0}} {
		for _, neg := range []bool{false, true} {
			if x := integer.Nat(neg, zero); x.Neg || len(x.Mag) > 0 {
				t.Errorf("Nat(%v, %v) = %v", neg, zero, x)
			}
		}
	}
}

func checkInt(t *testing.T, v *big.Int) {
	t.Helper()
	x := of(v)
	want := 0
	fits := v.Cmp(small(math.MinInt)) >= 0 && v.Cmp(small(math.MaxInt)) <= 0
	if fits {
		want = int(v.Int64())
	}
	if got, ok := integer.Int(x); got != want || ok != fits {
		t.Errorf("Int(%v) = %v, %v, want %v, %v", x, got, ok, want, fits)
	}
}

// Around both ends of int and around the powers of two at which elements begin.
func TestInt(t *testing.T) {
	for _, n := range ints() {
		checkInt(t, small(n))
	}
	for _, border := range []uint{31, 32, 33, 62, 63, 64, 65, 95, 96, 128} {
		power := new(big.Int).Lsh(small(1), border)
		for d := -3; d <= 3; d++ {
			v := new(big.Int).Add(power, small(d))
			checkInt(t, v)
			checkInt(t, v.Neg(v))
		}
	}
	for _, x := range samples() {
		checkInt(t, value(x))
	}
}

func TestIntBeyondTheEnds(t *testing.T) {
	for _, x := range []api.Int{{Mag: []uint32{0, 1 << 31}}, {Neg: true, Mag: []uint32{1, 1 << 31}}, {Mag: []uint32{top, top}}, {Neg: true, Mag: []uint32{top, top}}, {Mag: []uint32{5, 0, 1}}, {Neg: true, Mag: []uint32{5, 0, 1}}} {
		if n, ok := integer.Int(x); n != 0 || ok {
			t.Errorf("Int(%v) = %v, %v", x, n, ok)
		}
	}
}

func TestIntUndoesOf(t *testing.T) {
	for _, n := range ints() {
		if got, ok := integer.Int(integer.Of(n)); got != n || !ok {
			t.Errorf("Int(Of(%d)) = %d, %v", n, got, ok)
		}
	}
}

// P5.2

func TestSignAndNeg(t *testing.T) {
	for _, x := range samples() {
		v := value(x)
		if got := integer.Sign(x); got != v.Sign() {
			t.Errorf("Sign(%v) = %d", x, got)
		}
		check(t, "Neg", integer.Neg(x), new(big.Int).Neg(v), x)
		check(t, "Neg of Neg", integer.Neg(integer.Neg(x)), v, x)
	}
	if zero := integer.Neg(api.Int{}); zero.Neg || len(zero.Mag) > 0 {
		t.Errorf("Neg(0) = %v", zero)
	}
}

// checkPair checks everything that P5.2 says of two integers.
func checkPair(t *testing.T, x, y api.Int) {
	t.Helper()
	v, w := value(x), value(y)
	if got := integer.Cmp(x, y); got != v.Cmp(w) {
		t.Errorf("Cmp(%v, %v) = %d, want %d", x, y, got, v.Cmp(w))
	}
	check(t, "Add", integer.Add(x, y), new(big.Int).Add(v, w), x, y)
	check(t, "Sub", integer.Sub(x, y), new(big.Int).Sub(v, w), x, y)
	check(t, "Mul", integer.Mul(x, y), new(big.Int).Mul(v, w), x, y)
}

// Among the pairs are zero on either side, and equal absolute values with different signs.
func TestPairs(t *testing.T) {
	for _, x := range samples() {
		for _, y := range samples() {
			checkPair(t, x, y)
		}
	}
}

func TestPairsOfSmallInts(t *testing.T) {
	for n := -12; n <= 12; n++ {
		for m := -12; m <= 12; m++ {
			checkPair(t, of(small(n)), of(small(m)))
		}
	}
}

func TestPairsOfNeighbours(t *testing.T) {
	for _, x := range samples() {
		for d := -2; d <= 2; d++ {
			y := new(big.Int).Add(value(x), small(d))
			checkPair(t, x, of(y))
			checkPair(t, x, of(y.Neg(y)))
		}
	}
}

func TestPairsOfExamples(t *testing.T) {
	for _, c := range []struct{ x, y, cmp, sum, difference, product int }{
		{0, 0, 0, 0, 0, 0}, {0, 5, -1, 5, -5, 0}, {5, 0, 1, 5, 5, 0}, {0, -5, 1, -5, 5, 0}, {-5, 0, -1, -5, -5, 0},
		{5, 5, 0, 10, 0, 25}, {5, -5, 1, 0, 10, -25}, {-5, 5, -1, 0, -10, -25}, {-5, -5, 0, -10, 0, 25},
		{5, 7, -1, 12, -2, 35}, {5, -7, 1, -2, 12, -35}, {-5, 7, -1, 2, -12, -35}, {-5, -7, 1, -12, 2, 35},
		{-3, -2, -1, -5, -1, 6}, {1, -9, 1, -8, 10, -9},
	} {
		x, y := integer.Of(c.x), integer.Of(c.y)
		if got := integer.Cmp(x, y); got != c.cmp {
			t.Errorf("Cmp(%d, %d) = %d", c.x, c.y, got)
		}
		check(t, "Add", integer.Add(x, y), small(c.sum), c.x, c.y)
		check(t, "Sub", integer.Sub(x, y), small(c.difference), c.x, c.y)
		check(t, "Mul", integer.Mul(x, y), small(c.product), c.x, c.y)
	}
}

// P5.3

// checkDivMod checks a quotient and a remainder by what determines them, for y that is not zero.
func checkDivMod(t *testing.T, x, y api.Int) {
	t.Helper()
	q, r, ok := integer.DivMod(x, y)
	if !ok || !valid(q) || !valid(r) {
		t.Errorf("DivMod(%v, %v) = %v, %v, %v", x, y, q, r, ok)
		return
	}
	divisor, rest := value(y), value(r)
	sum := new(big.Int).Mul(value(q), divisor)
	if sum.Add(sum, rest).Cmp(value(x)) != 0 {
		t.Errorf("DivMod(%v, %v) = %v, %v: the remainder is not x - q * y", x, y, q, r)
	}
	if rest.Sign() != 0 && rest.Sign() != divisor.Sign() || rest.CmpAbs(divisor) >= 0 {
		t.Errorf("DivMod(%v, %v) = %v, %v: the quotient is not the greatest one", x, y, q, r)
	}
}

func TestDivMod(t *testing.T) {
	for _, x := range samples() {
		for _, y := range samples()[1:] {
			checkDivMod(t, x, y)
		}
	}
	for n := -40; n <= 40; n++ {
		for m := 1; m <= 12; m++ {
			checkDivMod(t, of(small(n)), of(small(m)))
			checkDivMod(t, of(small(n)), of(small(-m)))
		}
	}
}

// Multiples of the divisor, which leave no remainder, and their neighbours on both sides.
func TestDivModCloseToMultiples(t *testing.T) {
	for _, q := range samples() {
		for _, y := range samples()[1:] {
			multiple := new(big.Int).Mul(value(q), value(y))
			part, rest, ok := integer.DivMod(of(multiple), y)
			if !ok || !stands(part, value(q)) || !stands(rest, small(0)) {
				t.Errorf("DivMod(%v, %v) = %v, %v, %v", multiple, y, part, rest, ok)
			}
			checkDivMod(t, of(new(big.Int).Add(multiple, small(1))), y)
			checkDivMod(t, of(new(big.Int).Sub(multiple, small(1))), y)
		}
	}
}

func TestDivModExamples(t *testing.T) {
	for _, c := range []struct{ x, y, q, r int }{
		{7, 2, 3, 1}, {-7, 2, -4, 1}, {7, -2, -4, -1}, {-7, -2, 3, -1},
		{8, 2, 4, 0}, {-8, 2, -4, 0}, {8, -2, -4, 0}, {-8, -2, 4, 0},
		{1, 5, 0, 1}, {-1, 5, -1, 4}, {1, -5, -1, -4}, {-1, -5, 0, -1},
		{5, 5, 1, 0}, {-5, 5, -1, 0}, {5, -5, -1, 0}, {-5, -5, 1, 0},
		{0, 5, 0, 0}, {0, -5, 0, 0}, {9, 1, 9, 0}, {-9, 1, -9, 0}, {9, -1, -9, 0}, {-9, -1, 9, 0},
	} {
		q, r, ok := integer.DivMod(integer.Of(c.x), integer.Of(c.y))
		if !ok || !stands(q, small(c.q)) || !stands(r, small(c.r)) {
			t.Errorf("DivMod(%d, %d) = %v, %v, %v, want %d, %d", c.x, c.y, q, r, ok, c.q, c.r)
		}
	}
}

func TestDivModByZero(t *testing.T) {
	for _, x := range samples() {
		for _, zero := range []api.Int{{}, {Mag: []uint32{}}, integer.Of(0)} {
			q, r, ok := integer.DivMod(x, zero)
			if ok || q.Neg || r.Neg || len(q.Mag) > 0 || len(r.Mag) > 0 {
				t.Errorf("DivMod(%v, 0) = %v, %v, %v", x, q, r, ok)
			}
		}
	}
}

// checkShifts checks both shifts by n places, and that Shr is the quotient by a power of two.
func checkShifts(t *testing.T, x api.Int, n int) {
	t.Helper()
	v := value(x)
	check(t, "Shl", integer.Shl(x, n), new(big.Int).Lsh(v, uint(n)), x, n)
	shifted := integer.Shr(x, n)
	check(t, "Shr", shifted, new(big.Int).Rsh(v, uint(n)), x, n)
	q, _, ok := integer.DivMod(x, of(new(big.Int).Lsh(small(1), uint(n))))
	if !ok || integer.Cmp(q, shifted) != 0 {
		t.Errorf("Shr(%v, %d) = %v, but the quotient is %v", x, n, shifted, q)
	}
}

func TestShifts(t *testing.T) {
	for _, x := range samples() {
		for border := 0; border <= 288; border += 32 {
			for _, n := range []int{border, border + 1, border + 13, border + 31} {
				checkShifts(t, x, n)
			}
		}
	}
}

// Multiples of 2^n, which Shr shifts exactly, and their neighbours on both sides.
func TestShiftsCloseToMultiples(t *testing.T) {
	for _, x := range samples() {
		for _, n := range []int{1, 2, 31, 32, 33, 64, 100} {
			multiple := new(big.Int).Lsh(value(x), uint(n))
			check(t, "Shr", integer.Shr(of(multiple), n), value(x), multiple, n)
			check(t, "Shr of Shl", integer.Shr(integer.Shl(x, n), n), value(x), x, n)
			checkShifts(t, of(new(big.Int).Add(multiple, small(1))), n)
			checkShifts(t, of(new(big.Int).Sub(multiple, small(1))), n)
		}
	}
}

func TestShiftsExamples(t *testing.T) {
	for _, c := range []struct{ x, n, left, right int }{
		{-1, 5, -32, -1}, {1, 5, 32, 0}, {0, 5, 0, 0}, {0, 0, 0, 0}, {9, 0, 9, 9}, {-9, 0, -9, -9},
		{9, 3, 72, 1}, {8, 3, 64, 1}, {7, 3, 56, 0}, {-7, 3, -56, -1}, {-8, 3, -64, -1}, {-9, 3, -72, -2}, {-3, 2, -12, -1},
	} {
		check(t, "Shl", integer.Shl(integer.Of(c.x), c.n), small(c.left), c.x, c.n)
		check(t, "Shr", integer.Shr(integer.Of(c.x), c.n), small(c.right), c.x, c.n)
	}
}

func TestLongestShifts(t *testing.T) {
	unit := new(big.Int).Lsh(small(1), api.MaxShift)
	for _, n := range []int{api.MaxShift - 1, api.MaxShift} {
		for _, x := range samples() {
			check(t, "Shl", integer.Shl(x, n), new(big.Int).Lsh(value(x), uint(n)), x, n)
			check(t, "Shr", integer.Shr(x, n), new(big.Int).Rsh(value(x), uint(n)), x, n)
		}
		for d := -1; d <= 1; d++ {
			v := new(big.Int).Add(unit, small(d))
			checkShifts(t, of(v), n)
			checkShifts(t, of(v.Neg(v)), n)
		}
	}
}
