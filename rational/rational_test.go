package rational_test

import (
	"encoding/binary"
	"math"
	"math/big"
	"math/rand/v2"
	"slices"
	"testing"

	"exactreal/api"
	"exactreal/rational"
)

const top = math.MaxUint32

// number returns the number that a sign and a list stand for, whether they are valid or not.
func number(neg bool, a []uint32) *big.Int {
	var digits []byte
	for _, word := range slices.Backward(a) {
		digits = binary.BigEndian.AppendUint32(digits, word)
	}
	v := new(big.Int).SetBytes(digits)
	if neg {
		v.Neg(v)
	}
	return v
}

// elements returns the natural of the absolute value of v, made without the packages of the project.
func elements(v *big.Int) []uint32 {
	var a []uint32
	digits := v.FillBytes(make([]byte, (v.BitLen()+31)/32*4))
	for i := len(digits); i > 0; i -= 4 {
		a = append(a, binary.BigEndian.Uint32(digits[i-4:]))
	}
	return a
}

func toInt(v *big.Int) api.Int {
	return api.Int{Neg: v.Sign() < 0, Mag: elements(v)}
}

// of returns the valid fraction of a number, made without the package.
func of(v *big.Rat) api.Rat {
	return api.Rat{Num: toInt(v.Num()), Den: elements(v.Denom())}
}

// frac returns the valid fraction n / m, for m of at least 1.
func frac(n, m int64) api.Rat {
	return of(big.NewRat(n, m))
}

// value returns the number that x stands for, whose denominator is not zero.
func value(x api.Rat) *big.Rat {
	return new(big.Rat).SetFrac(number(x.Num.Neg, x.Num.Mag), number(false, x.Den))
}

// validInt tells what chapter 5 calls valid, without the packages of the project.
func validInt(x api.Int) bool {
	if len(x.Mag) == 0 {
		return !x.Neg
	}
	return x.Mag[len(x.Mag)-1] != 0
}

// valid tells what chapter 7 calls valid, without the packages of the project.
func valid(x api.Rat) bool {
	if !validInt(x.Num) || len(x.Den) == 0 || x.Den[len(x.Den)-1] == 0 {
		return false
	}
	divisor := new(big.Int).GCD(nil, nil, number(false, x.Num.Mag), number(false, x.Den))
	return divisor.Cmp(big.NewInt(1)) == 0
}

// stands reports whether x is the valid fraction with the value v.
func stands(x api.Rat, v *big.Rat) bool {
	return valid(x) && value(x).Cmp(v) == 0
}

// isZero reports whether x has the zero value, where a nil slice is one as an empty one.
func isZero(x api.Rat) bool {
	return !x.Num.Neg && len(x.Num.Mag) == 0 && len(x.Den) == 0
}

func check(t *testing.T, call string, got api.Rat, want *big.Rat, args ...any) {
	t.Helper()
	if !stands(got, want) {
		t.Errorf("%s%v = %v, want the fraction %v", call, args, got, want)
	}
}

// checkRefused checks the error of a call, and that there is nothing else.
func checkRefused(t *testing.T, call string, got api.Rat, err, want api.Errno, args ...any) {
	t.Helper()
	if err != want || !isZero(got) {
		t.Errorf("%s%v = %v, error %d, want error %d", call, args, got, err, want)
	}
}

// parts returns numbers of one to six elements, from which numerators and denominators are made, the same ones whenever it is called.
func parts() []*big.Int {
	var all []*big.Int
	for _, a := range [][]uint32{{1}, {2}, {3}, {4}, {6}, {10}, {25}, {1 << 31}, {top}, {0, 1}, {1, 1}, {top, top}, {0, 0, 1}, {5, 0, 1}} {
		all = append(all, number(false, a))
	}
	random := rand.New(rand.NewPCG(7, 1))
	for n := 1; n <= 6; n++ {
		a := make([]uint32, n)
		for i := range a {
			a[i] = random.Uint32() >> random.IntN(32)
		}
		a[n-1] |= 1
		all = append(all, number(false, a))
	}
	return all
}

// samples returns the fractions of all parts over all others with both signs, and zero.
func samples() []api.Rat {
	all := []api.Rat{frac(0, 1)}
	for _, num := range parts() {
		for _, den := range parts() {
			v := new(big.Rat).SetFrac(num, den)
			all = append(all, of(v), of(v.Neg(v)))
		}
	}
	return all
}

// few returns some of the samples, zero, the ones and small fractions among them, for checks of pairs and of three fractions.
func few() []api.Rat {
	all := []api.Rat{frac(0, 1), frac(1, 1), frac(-1, 1), frac(1, 2), frac(-1, 2), frac(2, 1), frac(-2, 3), frac(3, 4), frac(6, 1), frac(5, 6), frac(-5, 6), frac(1, top), frac(-top, 2)}
	for i, x := range samples() {
		if i%47 == 5 {
			all = append(all, x)
		}
	}
	return all
}

// P7.1

func TestValid(t *testing.T) {
	for _, c := range []struct {
		x    api.Rat
		want bool
	}{
		{api.Rat{}, false}, {api.Rat{Den: []uint32{}}, false}, {api.Rat{Den: []uint32{0}}, false}, {api.Rat{Den: []uint32{1}}, true},
		{api.Rat{Num: api.Int{Mag: []uint32{}}, Den: []uint32{1}}, true}, {api.Rat{Num: api.Int{Neg: true}, Den: []uint32{1}}, false},
		{api.Rat{Num: api.Int{Mag: []uint32{0}}, Den: []uint32{1}}, false}, {api.Rat{Den: []uint32{2}}, false}, {api.Rat{Den: []uint32{0, 1}}, false},
		{api.Rat{Den: []uint32{1, 0}}, false}, {api.Rat{Num: api.Int{Mag: []uint32{1}}}, false}, {api.Rat{Num: api.Int{Neg: true, Mag: []uint32{1}}}, false},
		{api.Rat{Num: api.Int{Mag: []uint32{1}}, Den: []uint32{0}}, false}, {api.Rat{Num: api.Int{Mag: []uint32{1}}, Den: []uint32{0, 0}}, false},
		{api.Rat{Num: api.Int{Mag: []uint32{7}}, Den: []uint32{3}}, true}, {api.Rat{Num: api.Int{Neg: true, Mag: []uint32{7}}, Den: []uint32{3}}, true},
		{api.Rat{Num: api.Int{Mag: []uint32{7, 0}}, Den: []uint32{3}}, false}, {api.Rat{Num: api.Int{Mag: []uint32{7}}, Den: []uint32{3, 0}}, false},
		{api.Rat{Num: api.Int{Mag: []uint32{2}}, Den: []uint32{4}}, false}, {api.Rat{Num: api.Int{Neg: true, Mag: []uint32{2}}, Den: []uint32{4}}, false},
		{api.Rat{Num: api.Int{Mag: []uint32{5}}, Den: []uint32{5}}, false}, {api.Rat{Num: api.Int{Mag: []uint32{6}}, Den: []uint32{1}}, true},
		{api.Rat{Num: api.Int{Mag: []uint32{0, 1}}, Den: []uint32{6}}, false}, {api.Rat{Num: api.Int{Mag: []uint32{0, 1}}, Den: []uint32{0, 0, 1}}, false},
		{api.Rat{Num: api.Int{Mag: []uint32{1, 1}}, Den: []uint32{0, 1}}, true},
	} {
		if got := rational.Valid(c.x); got != c.want {
			t.Errorf("Valid(%v) = %v", c.x, got)
		}
	}
}

// The fractions of samples are valid, and those with another divisor in both parts are not.
func TestValidInLowestTermsOnly(t *testing.T) {
	for _, x := range samples() {
		if !rational.Valid(x) {
			t.Errorf("Valid(%v) = false", x)
		}
		for _, divisor := range parts()[1:] {
			num := new(big.Int).Mul(value(x).Num(), divisor)
			den := new(big.Int).Mul(value(x).Denom(), divisor)
			if y := (api.Rat{Num: toInt(num), Den: elements(den)}); rational.Valid(y) {
				t.Errorf("Valid(%v) = true", y)
			}
		}
	}
}

// checkMake checks Make with all signs, for a numerator and a denominator that are not less than 0 and 1.
func checkMake(t *testing.T, num, den *big.Int) {
	t.Helper()
	opposite, below := new(big.Int).Neg(num), new(big.Int).Neg(den)
	for _, c := range [][2]*big.Int{{num, den}, {opposite, den}, {num, below}, {opposite, below}} {
		got, err := rational.Make(toInt(c[0]), toInt(c[1]))
		if want := new(big.Rat).SetFrac(c[0], c[1]); err != api.OK || !stands(got, want) {
			t.Errorf("Make(%v, %v) = %v, error %d, want %v", c[0], c[1], got, err, want)
		}
	}
}

func TestMake(t *testing.T) {
	for _, num := range append(parts(), big.NewInt(0)) {
		for _, den := range parts() {
			checkMake(t, num, den)
			for _, divisor := range parts() {
				checkMake(t, new(big.Int).Mul(num, divisor), new(big.Int).Mul(den, divisor))
			}
		}
	}
	for num := range int64(40) {
		for den := range int64(40) {
			checkMake(t, big.NewInt(num), big.NewInt(den+1))
		}
	}
}

func TestMakeOfExamples(t *testing.T) {
	for _, c := range []struct {
		num, den int64
		neg      bool
		mag, low []uint32
	}{
		{6, -4, true, []uint32{3}, []uint32{2}}, {-6, 4, true, []uint32{3}, []uint32{2}}, {-6, -4, false, []uint32{3}, []uint32{2}}, {6, 4, false, []uint32{3}, []uint32{2}},
		{0, 7, false, nil, []uint32{1}}, {0, -7, false, nil, []uint32{1}}, {7, 7, false, []uint32{1}, []uint32{1}}, {-7, 7, true, []uint32{1}, []uint32{1}}, {1 << 32, 1 << 33, false, []uint32{1}, []uint32{2}},
	} {
		x, err := rational.Make(toInt(big.NewInt(c.num)), toInt(big.NewInt(c.den)))
		if err != api.OK || x.Num.Neg != c.neg || !slices.Equal(x.Num.Mag, c.mag) || !slices.Equal(x.Den, c.low) {
			t.Errorf("Make(%d, %d) = %v, error %d", c.num, c.den, x, err)
		}
	}
}

func TestMakeOverZero(t *testing.T) {
	for _, num := range append(parts(), big.NewInt(0)) {
		for _, zero := range []api.Int{{}, {Mag: []uint32{}}} {
			x, err := rational.Make(toInt(num), zero)
			checkRefused(t, "Make", x, err, api.ErrZero, num, 0)
			x, err = rational.Make(toInt(new(big.Int).Neg(num)), zero)
			checkRefused(t, "Make", x, err, api.ErrZero, num, 0)
		}
	}
}

func TestOf(t *testing.T) {
	for _, n := range []int{0, 1, -1, 2, -2, 7, -7, top, -top, 1 << 32, -1 << 32, 1<<32 + 1, math.MaxInt - 1, math.MaxInt, math.MinInt, math.MinInt + 1} {
		check(t, "Of", rational.Of(n), new(big.Rat).SetInt64(int64(n)), n)
	}
}

// checkOne checks everything that P7.1 says of one fraction.
func checkOne(t *testing.T, x api.Rat) {
	t.Helper()
	v := value(x)
	if got := rational.Sign(x); got != v.Sign() {
		t.Errorf("Sign(%v) = %d", x, got)
	}
	check(t, "Neg", rational.Neg(x), new(big.Rat).Neg(v), x)
	check(t, "x - x", rational.Sub(x, x), new(big.Rat), x)
	check(t, "x + -x", rational.Add(x, rational.Neg(x)), new(big.Rat), x)
	check(t, "x + 0", rational.Add(x, rational.Of(0)), v, x)
	check(t, "x * 1", rational.Mul(x, rational.Of(1)), v, x)
	check(t, "x * 0", rational.Mul(x, rational.Of(0)), new(big.Rat), x)
}

// checkPair checks everything that P7.1 says of two fractions.
func checkPair(t *testing.T, x, y api.Rat) {
	t.Helper()
	v, w := value(x), value(y)
	if got := rational.Cmp(x, y); got != v.Cmp(w) {
		t.Errorf("Cmp(%v, %v) = %d, want %d", x, y, got, v.Cmp(w))
	}
	check(t, "Add", rational.Add(x, y), new(big.Rat).Add(v, w), x, y)
	check(t, "Sub", rational.Sub(x, y), new(big.Rat).Sub(v, w), x, y)
	check(t, "Mul", rational.Mul(x, y), new(big.Rat).Mul(v, w), x, y)
}

func TestSignAndNeg(t *testing.T) {
	for _, x := range samples() {
		checkOne(t, x)
	}
	if zero := rational.Neg(rational.Of(0)); zero.Num.Neg || !stands(zero, new(big.Rat)) {
		t.Errorf("Neg(0) = %v", zero)
	}
}

func TestPairs(t *testing.T) {
	for _, x := range few() {
		for _, y := range samples() {
			checkPair(t, x, y)
			checkPair(t, y, x)
		}
	}
}

func TestPairsOfSmallFractions(t *testing.T) {
	var all []api.Rat
	for num := int64(-9); num <= 9; num++ {
		for den := int64(1); den <= 9; den++ {
			all = append(all, frac(num, den))
		}
	}
	for _, x := range all {
		for _, y := range all {
			checkPair(t, x, y)
		}
	}
}

func TestPairsOfExamples(t *testing.T) {
	for _, c := range []struct {
		x, y                     api.Rat
		cmp                      int
		sum, difference, product api.Rat
	}{
		{frac(1, 2), frac(1, 3), 1, frac(5, 6), frac(1, 6), frac(1, 6)}, {frac(1, 2), frac(1, 2), 0, frac(1, 1), frac(0, 1), frac(1, 4)},
		{frac(1, 2), frac(-1, 2), 1, frac(0, 1), frac(1, 1), frac(-1, 4)}, {frac(-2, 3), frac(3, 4), -1, frac(1, 12), frac(-17, 12), frac(-1, 2)},
		{frac(1, 6), frac(1, 3), -1, frac(1, 2), frac(-1, 6), frac(1, 18)}, {frac(4, 3), frac(3, 4), 1, frac(25, 12), frac(7, 12), frac(1, 1)},
		{frac(0, 1), frac(-5, 7), 1, frac(-5, 7), frac(5, 7), frac(0, 1)}, {frac(-3, 2), frac(-4, 3), -1, frac(-17, 6), frac(-1, 6), frac(2, 1)},
	} {
		if got := rational.Cmp(c.x, c.y); got != c.cmp {
			t.Errorf("Cmp(%v, %v) = %d", c.x, c.y, got)
		}
		check(t, "Add", rational.Add(c.x, c.y), value(c.sum), c.x, c.y)
		check(t, "Sub", rational.Sub(c.x, c.y), value(c.difference), c.x, c.y)
		check(t, "Mul", rational.Mul(c.x, c.y), value(c.product), c.x, c.y)
	}
}

// Neighbours differ by very little; one pair after the other is the same but for the signs.
func TestPairsOfNeighbours(t *testing.T) {
	tiny := new(big.Rat).SetFrac(big.NewInt(1), new(big.Int).Lsh(big.NewInt(1), 300))
	for _, x := range samples() {
		above := new(big.Rat).Add(value(x), tiny)
		below := new(big.Rat).Sub(value(x), tiny)
		for _, y := range []api.Rat{x, of(above), of(below)} {
			checkPair(t, x, y)
			checkPair(t, y, x)
			checkPair(t, rational.Neg(x), y)
		}
	}
}

// The ratios of successive Fibonacci numbers differ by less than fractions with such denominators otherwise do.
func TestCmpOfSuccessiveRatios(t *testing.T) {
	a, b := big.NewInt(1), big.NewInt(1)
	before := frac(1, 1)
	for range 300 {
		a, b = b, new(big.Int).Add(a, b)
		x := api.Rat{Num: toInt(a), Den: elements(b)}
		if got, want := rational.Cmp(before, x), value(before).Cmp(value(x)); got != want || got == 0 || rational.Cmp(x, before) != -got || rational.Cmp(x, x) != 0 {
			t.Errorf("Cmp(%v, %v) = %d", before, x, got)
		}
		before = x
	}
}

// The laws of a field, as far as three fractions are needed for them.
func TestFieldLaws(t *testing.T) {
	for _, x := range few() {
		for _, y := range few() {
			for _, z := range few() {
				if rational.Cmp(rational.Add(rational.Add(x, y), z), rational.Add(x, rational.Add(y, z))) != 0 {
					t.Errorf("(x + y) + z is not x + (y + z) for %v, %v, %v", x, y, z)
				}
				if rational.Cmp(rational.Mul(rational.Mul(x, y), z), rational.Mul(x, rational.Mul(y, z))) != 0 {
					t.Errorf("(x * y) * z is not x * (y * z) for %v, %v, %v", x, y, z)
				}
				if rational.Cmp(rational.Mul(x, rational.Add(y, z)), rational.Add(rational.Mul(x, y), rational.Mul(x, z))) != 0 {
					t.Errorf("x * (y + z) is not x * y + x * z for %v, %v, %v", x, y, z)
				}
			}
		}
	}
}

// P7.2

func TestDiv(t *testing.T) {
	for _, x := range few() {
		for _, y := range samples() {
			if rational.Sign(y) == 0 {
				continue
			}
			got, err := rational.Div(x, y)
			if want := new(big.Rat).Quo(value(x), value(y)); err != api.OK || !stands(got, want) {
				t.Errorf("Div(%v, %v) = %v, error %d, want %v", x, y, got, err, want)
			}
			check(t, "Mul of Div", rational.Mul(got, y), value(x), x, y)
		}
	}
}

func TestDivOfExamples(t *testing.T) {
	for _, c := range []struct{ x, y, want api.Rat }{
		{frac(1, 2), frac(-3, 4), frac(-2, 3)}, {frac(-1, 2), frac(3, 4), frac(-2, 3)}, {frac(-1, 2), frac(-3, 4), frac(2, 3)},
		{frac(0, 1), frac(-3, 4), frac(0, 1)}, {frac(5, 7), frac(5, 7), frac(1, 1)}, {frac(5, 7), frac(-5, 7), frac(-1, 1)}, {frac(1, 1), frac(-2, 9), frac(-9, 2)},
	} {
		got, err := rational.Div(c.x, c.y)
		if err != api.OK || !stands(got, value(c.want)) {
			t.Errorf("Div(%v, %v) = %v, error %d", c.x, c.y, got, err)
		}
	}
}

func TestDivByZero(t *testing.T) {
	for _, x := range samples() {
		y, err := rational.Div(x, rational.Of(0))
		checkRefused(t, "Div", y, err, api.ErrZero, x, 0)
	}
}

// power returns v to the power n, by products.
func power(v *big.Rat, n int) *big.Rat {
	if n < 0 {
		return power(new(big.Rat).Inv(v), -n)
	}
	p := big.NewRat(1, 1)
	for range n {
		p.Mul(p, v)
	}
	return p
}

func checkPower(t *testing.T, x api.Rat, n int) {
	t.Helper()
	got, err := rational.Power(x, n)
	if want := power(value(x), n); err != api.OK || !stands(got, want) {
		t.Errorf("Power(%v, %d) = %v, error %d, want %v", x, n, got, err, want)
	}
}

func TestPower(t *testing.T) {
	for _, x := range samples()[1:] {
		for _, n := range []int{0, 1, -1, 2, -2, 3, -3, api.MaxPower - 1, api.MaxPower, 1 - api.MaxPower, -api.MaxPower} {
			checkPower(t, x, n)
		}
	}
	for _, x := range few()[1:] {
		for n := -api.MaxPower; n <= api.MaxPower; n++ {
			checkPower(t, x, n)
		}
	}
}

func TestPowerOfExamples(t *testing.T) {
	for _, c := range []struct {
		x    api.Rat
		n    int
		want api.Rat
	}{
		{frac(2, 3), 3, frac(8, 27)}, {frac(-2, 3), 3, frac(-8, 27)}, {frac(-2, 3), -3, frac(-27, 8)}, {frac(-2, 3), 2, frac(4, 9)}, {frac(-2, 3), -2, frac(9, 4)}, {frac(5, 1), -1, frac(1, 5)},
		{frac(-5, 1), -1, frac(-1, 5)}, {frac(-7, 9), 0, frac(1, 1)}, {frac(0, 1), 0, frac(1, 1)}, {frac(0, 1), 1, frac(0, 1)}, {frac(0, 1), api.MaxPower, frac(0, 1)}, {frac(-1, 1), -api.MaxPower, frac(1, 1)},
	} {
		if got, err := rational.Power(c.x, c.n); err != api.OK || !stands(got, value(c.want)) {
			t.Errorf("Power(%v, %d) = %v, error %d", c.x, c.n, got, err)
		}
	}
}

func TestPowerOutOfRange(t *testing.T) {
	for _, x := range samples() {
		for _, n := range []int{api.MaxPower + 1, -api.MaxPower - 1, 2 * api.MaxPower, 1 << 32, -1 << 32, math.MaxInt, math.MinInt, math.MinInt + 1} {
			y, err := rational.Power(x, n)
			checkRefused(t, "Power", y, err, api.ErrArg, x, n)
		}
	}
}

// Of zero, exponents from 0 on have a power; an exponent below -MaxPower is out of range first.
func TestPowerOfZero(t *testing.T) {
	zero := rational.Of(0)
	for n := range api.MaxPower + 1 {
		checkPower(t, zero, n)
	}
	for n := -api.MaxPower; n < 0; n++ {
		y, err := rational.Power(zero, n)
		checkRefused(t, "Power", y, err, api.ErrZero, 0, n)
	}
}

func checkSqrt(t *testing.T, v *big.Rat) {
	t.Helper()
	num, den := new(big.Int), new(big.Int)
	ok := v.Sign() >= 0
	if ok {
		num.Sqrt(v.Num())
		den.Sqrt(v.Denom())
		want := new(big.Rat).SetFrac(num, den)
		ok = want.Mul(want, want).Cmp(v) == 0
	}
	got, isSquare := rational.Sqrt(of(v))
	switch {
	case isSquare != ok:
		t.Errorf("Sqrt(%v) = %v, %v", v, got, isSquare)
	case !ok && !isZero(got):
		t.Errorf("Sqrt(%v) = %v, false", v, got)
	case ok && !stands(got, new(big.Rat).SetFrac(num, den)):
		t.Errorf("Sqrt(%v) = %v, want %v / %v", v, got, num, den)
	}
}

// Squares, fractions of which only one part is a square, and numbers less than zero.
func TestSqrt(t *testing.T) {
	for _, x := range samples() {
		v := value(x)
		checkSqrt(t, v)
		square := new(big.Rat).Mul(v, v)
		got, ok := rational.Sqrt(of(square))
		if !ok || !stands(got, new(big.Rat).Abs(v)) {
			t.Errorf("Sqrt(%v) = %v, %v", square, got, ok)
		}
		checkSqrt(t, new(big.Rat).Neg(square))
		for d := int64(-2); d <= 2; d++ {
			num := new(big.Int).Add(square.Num(), big.NewInt(d))
			checkSqrt(t, new(big.Rat).SetFrac(num, square.Denom()))
			if den := new(big.Int).Add(square.Denom(), big.NewInt(d)); den.Sign() > 0 {
				checkSqrt(t, new(big.Rat).SetFrac(square.Num(), den))
			}
		}
	}
	for num := int64(-40); num <= 100; num++ {
		for den := int64(1); den <= 100; den++ {
			checkSqrt(t, big.NewRat(num, den))
		}
	}
}

func TestSqrtOfExamples(t *testing.T) {
	for _, c := range []struct{ x, want api.Rat }{
		{frac(9, 4), frac(3, 2)}, {frac(0, 1), frac(0, 1)}, {frac(1, 1), frac(1, 1)}, {frac(4, 1), frac(2, 1)}, {frac(1, 9), frac(1, 3)}, {frac(8, 18), frac(2, 3)},
	} {
		if got, ok := rational.Sqrt(c.x); !ok || !stands(got, value(c.want)) {
			t.Errorf("Sqrt(%v) = %v, %v", c.x, got, ok)
		}
	}
	for _, x := range []api.Rat{frac(2, 1), frac(1, 2), frac(4, 3), frac(3, 4), frac(8, 1), frac(-4, 1), frac(-1, 4), frac(-9, 4), frac(-2, 1)} {
		if got, ok := rational.Sqrt(x); ok || !isZero(got) {
			t.Errorf("Sqrt(%v) = %v, %v", x, got, ok)
		}
	}
}
