package dyadic_test

import (
	"encoding/binary"
	"math"
	"math/big"
	"math/rand/v2"
	"slices"
	"testing"

	"exactreal/api"
	"exactreal/dyadic"
)

const (
	top     = math.MaxUint32
	highest = api.MaxExponent
	lowest  = -api.MaxExponent
)

// number returns the number that a sign and a list stand for, whether they are valid or not.
func number(neg bool, a []uint32) *big.Int {
	var digits []byte
	for _, word := range slices.Backward(a) {
		digits = binary.BigEndian.AppendUint32(digits, word)
	}
	v := new(big.Int).SetBytes(digits)
	if neg {
		v.Neg(v)
	}
	return v
}

// elements returns the natural of the absolute value of v, made without the packages of the project.
func elements(v *big.Int) []uint32 {
	var a []uint32
	digits := v.FillBytes(make([]byte, (v.BitLen()+31)/32*4))
	for i := len(digits); i > 0; i -= 4 {
		a = append(a, binary.BigEndian.Uint32(digits[i-4:]))
	}
	return a
}

func toInt(v *big.Int) api.Int {
	return api.Int{Neg: v.Sign() < 0, Mag: elements(v)}
}

// of returns the valid dyadic of man * 2^exp and true, made without the package; or a zero value and false if there is none.
func of(man *big.Int, exp int) (api.Dyadic, bool) {
	if man.Sign() == 0 {
		return api.Dyadic{}, true
	}
	zeros := int(man.TrailingZeroBits())
	odd := new(big.Int).Quo(man, new(big.Int).Lsh(big.NewInt(1), uint(zeros)))
	exp += zeros
	if odd.BitLen() > api.MaxBits || exp < lowest || exp > highest {
		return api.Dyadic{}, false
	}
	return api.Dyadic{Man: toInt(odd), Exp: exp}, true
}

// dy returns the valid dyadic of man * 2^exp, which there must be.
func dy(man int64, exp int) api.Dyadic {
	return wide(big.NewInt(man), exp)
}

func wide(man *big.Int, exp int) api.Dyadic {
	d, ok := of(man, exp)
	if !ok {
		panic("there is no such dyadic")
	}
	return d
}

// ones returns the number of n binary digits 1.
func ones(n int) *big.Int {
	v := new(big.Int).Lsh(big.NewInt(1), uint(n))
	return v.Sub(v, big.NewInt(1))
}

// ends returns the number of n binary digits, at least two, of which only the first and the last one are 1.
func ends(n int) *big.Int {
	v := new(big.Int).Lsh(big.NewInt(1), uint(n-1))
	return v.Add(v, big.NewInt(1))
}

// same reports whether a and b are identical.
func same(a, b api.Dyadic) bool {
	return a.Man.Neg == b.Man.Neg && slices.Equal(a.Man.Mag, b.Man.Mag) && a.Exp == b.Exp
}

// scaled returns d / 2^exp, for an exponent that is not greater than that of d.
func scaled(d api.Dyadic, exp int) *big.Int {
	return new(big.Int).Lsh(number(d.Man.Neg, d.Man.Mag), uint(d.Exp-exp))
}

// ratio returns the number that x stands for, whose denominator is not zero.
func ratio(x api.Rat) *big.Rat {
	return new(big.Rat).SetFrac(number(x.Num.Neg, x.Num.Mag), number(false, x.Den))
}

// short returns a dyadic in a form in which it can be printed.
func short(d api.Dyadic) string {
	man := number(d.Man.Neg, d.Man.Mag).Text(16)
	if len(man) > 60 {
		man = man[:30] + ".." + man[len(man)-30:]
	}
	return man + " * 2^" + big.NewInt(int64(d.Exp)).String()
}

// check checks the result of a call, where man * 2^exp is its exact value.
func check(t *testing.T, call string, got api.Dyadic, err api.Errno, man *big.Int, exp int, args ...api.Dyadic) {
	t.Helper()
	want, ok := of(man, exp)
	wantErr := api.OK
	if !ok {
		wantErr = api.ErrLarge
	}
	if err != wantErr || !same(got, want) {
		t.Errorf("%s(%v) = %s, error %d, want %s, error %d", call, shorts(args), short(got), err, short(want), wantErr)
	}
}

func shorts(args []api.Dyadic) []string {
	var all []string
	for _, d := range args {
		all = append(all, short(d))
	}
	return all
}

// checkRefused checks the error of a call, and that there is nothing else.
func checkRefused(t *testing.T, call string, got api.Dyadic, err, want api.Errno, args ...any) {
	t.Helper()
	if err != want || !same(got, api.Dyadic{}) {
		t.Errorf("%s%v = %s, error %d, want error %d", call, args, short(got), err, want)
	}
}

// mantissas returns odd numbers of one to six elements, the same ones whenever it is called.
func mantissas() []*big.Int {
	var all []*big.Int
	for _, a := range [][]uint32{{1}, {3}, {5}, {7}, {1<<31 + 1}, {top - 2}, {top}, {1, 1}, {top, 1}, {top, top}, {1, 0, 1}, {5, 0, 1 << 31}, {top, top, top}} {
		all = append(all, number(false, a))
	}
	random := rand.New(rand.NewPCG(8, 1))
	for n := 1; n <= 6; n++ {
		a := make([]uint32, n)
		for i := range a {
			a[i] = random.Uint32()
		}
		a[0] |= 1
		all = append(all, number(false, a))
	}
	return all
}

// samples returns dyadics with all mantissas, both signs, and exponents of all kinds, and zero.
func samples() []api.Dyadic {
	all := []api.Dyadic{{}}
	for _, man := range mantissas() {
		opposite := new(big.Int).Neg(man)
		for _, exp := range []int{0, 1, -1, 2, -3, 31, 32, -32, 33, -64, 100, -100, 1000, -1000, highest, lowest} {
			all = append(all, wide(man, exp), wide(opposite, exp))
		}
	}
	return all
}

// few returns some dyadics, zero, the ones and those at the ends of the range among them, for checks of pairs.
func few() []api.Dyadic {
	all := []api.Dyadic{{}, dy(1, 0), dy(-1, 0), dy(1, 1), dy(1, -1), dy(-1, -1), dy(3, 0), dy(-3, -2), dy(5, 7), dy(1, highest), dy(-1, highest), dy(1, lowest), dy(-1, lowest), dy(3, lowest), dy(-3, highest)}
	for _, exp := range []int{lowest, 1 - api.MaxBits, -1, 0, highest} {
		for _, man := range []*big.Int{ones(api.MaxBits), ends(api.MaxBits)} {
			all = append(all, wide(man, exp), wide(new(big.Int).Neg(man), exp))
		}
	}
	for i, d := range samples() {
		if i%31 == 7 {
			all = append(all, d)
		}
	}
	return all
}

// small returns the multiples of 1/8 from -3 to 3.
func small() []api.Dyadic {
	var all []api.Dyadic
	for n := int64(-24); n <= 24; n++ {
		all = append(all, dy(n, -3))
	}
	return all
}

// P8.1

func TestValid(t *testing.T) {
	longest, long := elements(ends(api.MaxBits)), elements(ends(api.MaxBits+1))
	for _, c := range []struct {
		name string
		neg  bool
		mag  []uint32
		exp  int
		want bool
	}{
		{"zero", false, nil, 0, true}, {"zero of an empty list", false, []uint32{}, 0, true}, {"negative zero", true, nil, 0, false}, {"zero of zeros", false, []uint32{0, 0}, 0, false},
		{"zero with an exponent", false, nil, 1, false}, {"zero with a negative exponent", false, nil, -1, false}, {"zero with a great exponent", false, nil, highest + 1, false},
		{"one", false, []uint32{1}, 0, true}, {"minus one", true, []uint32{1}, 0, true}, {"even", false, []uint32{2}, 0, false}, {"even and negative", true, []uint32{6}, 3, false}, {"even, of two elements", false, []uint32{0, 1}, 0, false},
		{"even below", false, []uint32{4, 1}, 0, false}, {"odd below", false, []uint32{1, 4}, 0, true}, {"a zero above", false, []uint32{1, 0}, 0, false}, {"one and an exponent", false, []uint32{1}, -7, true},
		{"greatest exponent", false, []uint32{1}, highest, true}, {"least exponent", true, []uint32{3}, lowest, true}, {"too great an exponent", false, []uint32{1}, highest + 1, false}, {"too low an exponent", false, []uint32{1}, lowest - 1, false},
		{"greatest int", false, []uint32{1}, math.MaxInt, false}, {"least int", false, []uint32{1}, math.MinInt, false},
		{"MaxBits", false, longest, 0, true}, {"MaxBits and negative", true, longest, highest, true}, {"MaxBits far below", false, longest, lowest, true}, {"MaxBits and more", false, long, 0, false}, {"negative with MaxBits and more", true, long, lowest, false},
	} {
		if got := dyadic.Valid(api.Dyadic{Man: api.Int{Neg: c.neg, Mag: c.mag}, Exp: c.exp}); got != c.want {
			t.Errorf("Valid of %s: %v", c.name, got)
		}
	}
	for _, d := range slices.Concat(samples(), few(), small()) {
		if !dyadic.Valid(d) {
			t.Errorf("Valid(%s) = false", short(d))
		}
	}
}

// checkMake checks Make with both signs.
func checkMake(t *testing.T, man *big.Int, exp int) {
	t.Helper()
	for _, v := range []*big.Int{man, new(big.Int).Neg(man)} {
		got, err := dyadic.Make(toInt(v), exp)
		check(t, "Make", got, err, v, exp, api.Dyadic{Man: toInt(v), Exp: exp})
		if err == api.OK && !dyadic.Valid(got) {
			t.Errorf("Make returns %s, which is not valid", short(got))
		}
	}
}

func TestMake(t *testing.T) {
	for _, man := range append(mantissas(), new(big.Int)) {
		for _, zeros := range []uint{0, 1, 2, 5, 31, 32, 33, 64, 100} {
			v := new(big.Int).Lsh(man, zeros)
			for _, exp := range []int{0, 1, -1, 5, -5, -31, -32, -33, 1000, -1000, highest, lowest, highest - int(zeros), lowest - int(zeros), highest - int(zeros) + 1, lowest - int(zeros) - 1, 2 * highest, 2 * lowest} {
				checkMake(t, v, exp)
			}
		}
	}
	for man := range int64(70) {
		for exp := -40; exp < 40; exp++ {
			checkMake(t, big.NewInt(man), exp)
		}
	}
}

// The zeros at the end of a mantissa count neither for its length nor for the exponent.
func TestMakeAtTheLimits(t *testing.T) {
	for _, man := range []*big.Int{big.NewInt(1), big.NewInt(3), ones(api.MaxBits), ends(api.MaxBits), ones(api.MaxBits + 1), ends(api.MaxBits + 1), ends(2 * api.MaxBits)} {
		for _, zeros := range []int{0, 1, 2, highest - 1, highest, highest + 1, 2 * highest, 2*highest + 1} {
			v := new(big.Int).Lsh(man, uint(zeros))
			for _, exp := range []int{2 * lowest, 2*lowest + 1, lowest - 1, lowest, lowest + 1, -1, 0, 1, highest - 1, highest, highest + 1, 2*highest - 1, 2 * highest, lowest - zeros, highest - zeros} {
				if exp >= 2*lowest {
					checkMake(t, v, exp)
				}
			}
		}
	}
}

// An exponent out of range is refused first, even of a zero, and of numbers that are too large or would have been valid without their zeros.
func TestMakeOutOfRange(t *testing.T) {
	for _, man := range []*big.Int{new(big.Int), big.NewInt(1), big.NewInt(-1), big.NewInt(6), ones(api.MaxBits), ones(api.MaxBits + 1), new(big.Int).Lsh(big.NewInt(1), 2*highest), new(big.Int).Lsh(big.NewInt(-3), 2*highest)} {
		for _, exp := range []int{2*highest + 1, 2*lowest - 1, 3 * highest, 3 * lowest, 1 << 32, -1 << 32, math.MaxInt, math.MinInt, math.MinInt + 1, math.MaxInt - 2*highest} {
			d, err := dyadic.Make(toInt(man), exp)
			checkRefused(t, "Make", d, err, api.ErrArg, exp)
		}
	}
	for _, exp := range []int{2 * highest, 2 * lowest, highest + 1, lowest - 1} {
		d, err := dyadic.Make(toInt(big.NewInt(1)), exp)
		checkRefused(t, "Make", d, err, api.ErrLarge, exp)
	}
}

func TestMakeOfExamples(t *testing.T) {
	for _, c := range []struct {
		man, exp int
		mag      []uint32
		want     int
	}{
		{12, -1, []uint32{3}, 1}, {-12, -1, []uint32{3}, 1}, {3, 1, []uint32{3}, 1}, {6, 0, []uint32{3}, 1}, {1, 0, []uint32{1}, 0}, {0, 5, nil, 0}, {0, 2 * highest, nil, 0}, {0, 2 * lowest, nil, 0}, {1 << 40, -40, []uint32{1}, 0},
		{1<<40 + 1, -40, []uint32{1, 256}, -40}, {3 << 33, 2, []uint32{3}, 35}, {4, -api.MaxExponent - 2, []uint32{1}, -api.MaxExponent}, {7, highest, []uint32{7}, highest},
	} {
		d, err := dyadic.Make(toInt(big.NewInt(int64(c.man))), c.exp)
		if err != api.OK || d.Man.Neg != (c.man < 0) || !slices.Equal(d.Man.Mag, c.mag) || d.Exp != c.want {
			t.Errorf("Make(%d, %d) = %v, error %d", c.man, c.exp, d, err)
		}
	}
}

func TestOf(t *testing.T) {
	for _, n := range []int{0, 1, -1, 2, -2, 3, 4, -6, 7, 12, top, -top, 1 << 32, -1 << 32, 3 << 40, math.MaxInt, math.MaxInt - 1, math.MinInt, math.MinInt + 1} {
		check(t, "Of", dyadic.Of(n), api.OK, big.NewInt(int64(n)), 0)
	}
	for n := -300; n <= 300; n++ {
		check(t, "Of", dyadic.Of(n), api.OK, big.NewInt(int64(n)), 0)
	}
}

// exactly returns the fraction of d, made without the package.
func exactly(d api.Dyadic) (num, den *big.Int) {
	num, den = number(d.Man.Neg, d.Man.Mag), big.NewInt(1)
	if d.Exp < 0 {
		return num, den.Lsh(den, uint(-d.Exp))
	}
	return num.Lsh(num, uint(d.Exp)), den
}

func TestRatAndFrom(t *testing.T) {
	for _, d := range slices.Concat(samples(), few(), small()) {
		x := dyadic.Rat(d)
		num, den := exactly(d)
		if x.Num.Neg != (num.Sign() < 0) || !slices.Equal(x.Num.Mag, elements(num)) || !slices.Equal(x.Den, elements(den)) {
			t.Errorf("Rat(%s) = %v", short(d), x)
		}
		if back, ok := dyadic.From(x); !ok || !same(back, d) {
			t.Errorf("From(Rat(%s)) = %s, %v", short(d), short(back), ok)
		}
	}
}

func TestRatOfExamples(t *testing.T) {
	for _, c := range []struct {
		d        api.Dyadic
		num, den int64
	}{
		{dy(3, 1), 6, 1}, {dy(3, 0), 3, 1}, {dy(3, -1), 3, 2}, {dy(-5, -3), -5, 8}, {dy(-5, 3), -40, 1}, {dy(0, 0), 0, 1}, {dy(1, -40), 1, 1 << 40}, {dy(1, 40), 1 << 40, 1}, {dy(-1, 0), -1, 1},
	} {
		x := dyadic.Rat(c.d)
		if number(x.Num.Neg, x.Num.Mag).Cmp(big.NewInt(c.num)) != 0 || number(false, x.Den).Cmp(big.NewInt(c.den)) != 0 {
			t.Errorf("Rat(%s) = %v", short(c.d), x)
		}
	}
}

// checkFrom checks From of num / den in lowest terms, where den is 2 to the power places, or no power of two if that is less than 0.
func checkFrom(t *testing.T, num, den *big.Int, places int) {
	t.Helper()
	want, ok := api.Dyadic{}, false
	if places >= 0 {
		want, ok = of(num, -places)
	}
	got, found := dyadic.From(api.Rat{Num: toInt(num), Den: elements(den)})
	if found != ok || !same(got, want) {
		t.Errorf("From of a fraction with %d places: %s, %v, want %s, %v", places, short(got), found, short(want), ok)
	}
}

func TestFrom(t *testing.T) {
	for num := int64(-33); num <= 33; num++ {
		for den := int64(1); den <= 33; den++ {
			x := big.NewRat(num, den)
			places := int(x.Denom().TrailingZeroBits())
			if x.Denom().BitLen() != places+1 {
				places = -1
			}
			checkFrom(t, x.Num(), x.Denom(), places)
		}
	}
	for _, num := range mantissas() {
		for _, places := range []int{0, 1, 31, 32, 33, 63, 64, 100, highest - 1, highest, highest + 1, 2 * highest, 2*highest + 1, 2*highest + 32} {
			den := new(big.Int).Lsh(big.NewInt(1), uint(places))
			checkFrom(t, num, den, places)
			checkFrom(t, new(big.Int).Neg(num), den, places)
			above := new(big.Int).Add(den, big.NewInt(2))
			if gcd := new(big.Int).GCD(nil, nil, num, above); places > 2 && gcd.IsInt64() && gcd.Int64() == 1 {
				checkFrom(t, num, above, -1)
			}
		}
	}
}

// Of whole numbers, only the digits without the zeros at the end count; of others, the numerator is odd.
func TestFromOfLargeFractions(t *testing.T) {
	for _, man := range []*big.Int{big.NewInt(1), big.NewInt(-5), ones(api.MaxBits), ends(api.MaxBits), ones(api.MaxBits + 1), ends(api.MaxBits + 1)} {
		for _, zeros := range []uint{0, 1, highest - 1, highest, highest + 1, 2*highest + 1} {
			checkFrom(t, new(big.Int).Lsh(man, zeros), big.NewInt(1), 0)
			checkFrom(t, man, new(big.Int).Lsh(big.NewInt(1), zeros), int(zeros))
			checkFrom(t, man, new(big.Int).Lsh(big.NewInt(7), zeros), -1)
		}
	}
}

// P8.2

// checkOne checks what P8.2 says of one dyadic, but for Shift.
func checkOne(t *testing.T, d api.Dyadic) {
	t.Helper()
	v := number(d.Man.Neg, d.Man.Mag)
	if got := dyadic.Sign(d); got != v.Sign() {
		t.Errorf("Sign(%s) = %d", short(d), got)
	}
	check(t, "Neg", dyadic.Neg(d), api.OK, new(big.Int).Neg(v), d.Exp, d)
	if got := dyadic.Cmp(d, d); got != 0 {
		t.Errorf("Cmp of %s with itself: %d", short(d), got)
	}
	zero, err := dyadic.Sub(d, d)
	check(t, "d - d", zero, err, new(big.Int), 0, d)
	zero, err = dyadic.Add(d, dyadic.Neg(d))
	check(t, "d + -d", zero, err, new(big.Int), 0, d)
	whole, err := dyadic.Add(d, api.Dyadic{})
	check(t, "d + 0", whole, err, v, d.Exp, d)
	whole, err = dyadic.Mul(d, dyadic.Of(1))
	check(t, "d * 1", whole, err, v, d.Exp, d)
	zero, err = dyadic.Mul(api.Dyadic{}, d)
	check(t, "0 * d", zero, err, new(big.Int), 0, d)
}

// checkPair checks what P8.2 says of two dyadics, in this order.
func checkPair(t *testing.T, a, b api.Dyadic) {
	t.Helper()
	exp := min(a.Exp, b.Exp)
	x, y := scaled(a, exp), scaled(b, exp)
	if got := dyadic.Cmp(a, b); got != x.Cmp(y) {
		t.Errorf("Cmp(%s, %s) = %d", short(a), short(b), got)
	}
	sum, err := dyadic.Add(a, b)
	check(t, "Add", sum, err, new(big.Int).Add(x, y), exp, a, b)
	difference, err := dyadic.Sub(a, b)
	check(t, "Sub", difference, err, new(big.Int).Sub(x, y), exp, a, b)
	product, err := dyadic.Mul(a, b)
	check(t, "Mul", product, err, new(big.Int).Mul(number(a.Man.Neg, a.Man.Mag), number(b.Man.Neg, b.Man.Mag)), a.Exp+b.Exp, a, b)
}

func TestSingles(t *testing.T) {
	for _, d := range slices.Concat(samples(), few(), small()) {
		checkOne(t, d)
	}
	if zero := dyadic.Neg(dyadic.Of(0)); zero.Man.Neg || zero.Exp != 0 || len(zero.Man.Mag) != 0 {
		t.Errorf("Neg(0) = %v", zero)
	}
}

func TestPairs(t *testing.T) {
	for i, a := range samples() {
		for j, b := range samples() {
			if (i+j)%17 == 0 {
				checkPair(t, a, b)
			}
		}
	}
	for _, a := range few() {
		for _, b := range few() {
			checkPair(t, a, b)
		}
	}
}

func TestPairsOfSmallNumbers(t *testing.T) {
	for _, a := range small() {
		for _, b := range small() {
			checkPair(t, a, b)
		}
	}
}

func TestPairsOfExamples(t *testing.T) {
	for _, c := range []struct {
		a, b                     api.Dyadic
		cmp                      int
		sum, difference, product api.Dyadic
	}{
		{dy(1, -1), dy(1, -1), 0, dy(1, 0), dy(0, 0), dy(1, -2)}, {dy(3, 1), dy(-3, 1), 1, dy(0, 0), dy(3, 2), dy(-9, 2)}, {dy(1, 2), dy(3, 0), 1, dy(7, 0), dy(1, 0), dy(3, 2)},
		{dy(3, 0), dy(1, 2), -1, dy(7, 0), dy(-1, 0), dy(3, 2)}, {dy(-1, 0), dy(-1, -1), -1, dy(-3, -1), dy(-1, -1), dy(1, -1)}, {dy(0, 0), dy(-5, -9), 1, dy(-5, -9), dy(5, -9), dy(0, 0)},
		{dy(1, 100), dy(1, 0), 1, wide(ends(101), 0), wide(ones(100), 0), dy(1, 100)}, {dy(1, -100), dy(-1, 0), 1, wide(new(big.Int).Neg(ones(100)), -100), wide(ends(101), -100), dy(-1, -100)}, {dy(5, 3), dy(3, 3), 1, dy(1, 6), dy(1, 4), dy(15, 6)},
	} {
		sum, _ := dyadic.Add(c.a, c.b)
		difference, _ := dyadic.Sub(c.a, c.b)
		product, _ := dyadic.Mul(c.a, c.b)
		if dyadic.Cmp(c.a, c.b) != c.cmp || !same(sum, c.sum) || !same(difference, c.difference) || !same(product, c.product) {
			t.Errorf("%s and %s: %d, %s, %s, %s", short(c.a), short(c.b), dyadic.Cmp(c.a, c.b), short(sum), short(difference), short(product))
		}
	}
}

// Neighbours of a number, whose exponents are that of it, or less by up to the greatest difference.
func TestCmpOfNeighbours(t *testing.T) {
	for _, exp := range []int{0, 1, 7, 40, 1000, highest, lowest + api.MaxBits} {
		for _, places := range []int{1, 2, 31, 32, 33, 1000, api.MaxBits - 1} {
			one := dy(1, exp)
			above, below := wide(ends(places+1), exp-places), wide(ones(places), exp-places)
			for _, pair := range [][2]api.Dyadic{{one, above}, {below, one}, {below, above}, {dyadic.Neg(one), below}, {dyadic.Neg(above), dyadic.Neg(one)}, {dyadic.Neg(one), dyadic.Neg(below)}, {dyadic.Neg(above), above}} {
				checkPair(t, pair[0], pair[1])
				checkPair(t, pair[1], pair[0])
				if dyadic.Cmp(pair[0], pair[1]) != -1 || dyadic.Cmp(pair[1], pair[0]) != 1 {
					t.Errorf("Cmp(%s, %s) is not -1", short(pair[0]), short(pair[1]))
				}
			}
		}
	}
}

// Sums and differences of MaxBits binary digits, and of one more; carries and zeros at the end decide.
func TestSumsAtTheLimits(t *testing.T) {
	one := dy(1, 0)
	for _, c := range []struct {
		name string
		a, b api.Dyadic
		err  api.Errno
	}{
		{"MaxBits digits", dy(1, api.MaxBits-1), one, api.OK}, {"one digit more", dy(1, api.MaxBits), one, api.ErrLarge}, {"a carry to a power of two", wide(ones(api.MaxBits), 0), one, api.OK},
		{"a carry to one digit more", wide(ones(api.MaxBits), 0), dy(1, 1), api.ErrLarge}, {"a carry that leaves a zero", wide(ones(api.MaxBits), 0), dy(3, 0), api.OK}, {"twice the same", wide(ones(api.MaxBits), highest-1), wide(ones(api.MaxBits), highest-1), api.OK},
		{"twice the greatest", dy(1, highest), dy(1, highest), api.ErrLarge}, {"twice the greatest mantissa", wide(ones(api.MaxBits), highest), wide(ones(api.MaxBits), highest), api.ErrLarge}, {"three times the greatest", dy(1, highest), dy(3, highest), api.ErrLarge},
		{"an odd sum", dy(3, highest), dy(-1, highest), api.ErrLarge}, {"far apart", dy(1, highest), dy(1, lowest), api.ErrLarge}, {"as far apart as possible", dy(1, lowest), dy(1, lowest+api.MaxBits-1), api.OK}, {"one place more", dy(1, lowest), dy(1, lowest+api.MaxBits), api.ErrLarge},
		{"the least ones", dy(1, lowest), dy(1, lowest), api.OK}, {"a difference of MaxBits digits", dy(1, api.MaxBits), dy(-1, 0), api.OK}, {"one digit more, by a difference", dy(1, api.MaxBits), dy(-1, -1), api.ErrLarge}, {"zero and the greatest", dy(1, highest), dy(0, 0), api.OK},
	} {
		checkPair(t, c.a, c.b)
		checkPair(t, c.b, c.a)
		if sum, err := dyadic.Add(c.a, c.b); err != c.err {
			t.Errorf("%s: %s, error %d", c.name, short(sum), err)
		}
		if difference, err := dyadic.Sub(c.b, dyadic.Neg(c.a)); err != c.err {
			t.Errorf("%s, as a difference: %s, error %d", c.name, short(difference), err)
		}
	}
}

// Products of MaxBits binary digits, and of one more, and exponents at both ends of the range.
func TestProductsAtTheLimits(t *testing.T) {
	half := api.MaxBits / 2
	for _, c := range []struct {
		name string
		a, b api.Dyadic
		err  api.Errno
	}{
		{"MaxBits digits", wide(ones(half), 0), wide(ones(half), 0), api.OK}, {"one digit more", wide(ones(half+1), 0), wide(ones(half), 0), api.ErrLarge}, {"MaxBits digits without a carry", wide(ends(half+1), 0), wide(ends(half), 0), api.OK},
		{"one digit more without a carry", wide(ends(half+1), 0), wide(ends(half+1), 0), api.ErrLarge}, {"greatest exponent", dy(1, highest-5), dy(7, 5), api.OK}, {"too great an exponent", dy(3, highest-5), dy(7, 6), api.ErrLarge},
		{"least exponent", dy(1, lowest+5), dy(7, -5), api.OK}, {"too low an exponent", dy(3, lowest+5), dy(7, -6), api.ErrLarge}, {"twice the greatest exponent", dy(1, highest), dy(1, highest), api.ErrLarge}, {"twice the least exponent", dy(1, lowest), dy(1, lowest), api.ErrLarge},
		{"both ends", dy(1, highest), dy(1, lowest), api.OK}, {"zero and the greatest exponent", dy(0, 0), dy(1, highest), api.OK}, {"MaxBits digits and 1", wide(ones(api.MaxBits), lowest), dy(-1, 0), api.OK}, {"MaxBits digits and 3", wide(ones(api.MaxBits), lowest), dy(3, 0), api.ErrLarge},
	} {
		checkPair(t, c.a, c.b)
		checkPair(t, c.b, c.a)
		if product, err := dyadic.Mul(c.a, c.b); err != c.err {
			t.Errorf("%s: %s, error %d", c.name, short(product), err)
		}
	}
}

// The fractions of the results are the results of the fractions.
func TestFractionsOfResults(t *testing.T) {
	for i, a := range samples() {
		for j, b := range samples() {
			if (i+j)%101 != 0 || max(a.Exp, b.Exp) > 1000 || min(a.Exp, b.Exp) < -1000 {
				continue
			}
			x, y := ratio(dyadic.Rat(a)), ratio(dyadic.Rat(b))
			sum, _ := dyadic.Add(a, b)
			difference, _ := dyadic.Sub(a, b)
			product, _ := dyadic.Mul(a, b)
			if dyadic.Cmp(a, b) != x.Cmp(y) || ratio(dyadic.Rat(sum)).Cmp(new(big.Rat).Add(x, y)) != 0 || ratio(dyadic.Rat(difference)).Cmp(new(big.Rat).Sub(x, y)) != 0 || ratio(dyadic.Rat(product)).Cmp(new(big.Rat).Mul(x, y)) != 0 {
				t.Errorf("the fractions of the results for %s and %s are others", short(a), short(b))
			}
		}
	}
}

// Equal numbers are identical, however they were reached.
func TestEqualNumbersAreIdentical(t *testing.T) {
	for _, a := range small() {
		for _, b := range small() {
			sum, _ := dyadic.Add(a, b)
			swapped, _ := dyadic.Add(b, a)
			back, _ := dyadic.Sub(sum, b)
			double, _ := dyadic.Mul(dyadic.Of(2), sum)
			shifted, _ := dyadic.Shift(sum, 1)
			twice, _ := dyadic.Add(sum, sum)
			if !same(sum, swapped) || !same(back, a) || !same(double, shifted) || !same(double, twice) || (dyadic.Cmp(a, b) == 0) != same(a, b) {
				t.Errorf("equal numbers are not identical for %s and %s", short(a), short(b))
			}
		}
	}
}

func TestShift(t *testing.T) {
	for _, d := range slices.Concat(samples(), few(), small()) {
		for _, n := range []int{0, 1, -1, 2, 7, -7, 31, 32, -33, 1000, -1000, highest - 1, highest, lowest, lowest + 1, highest - d.Exp, highest - d.Exp + 1, lowest - d.Exp, lowest - d.Exp - 1} {
			got, err := dyadic.Shift(d, n)
			if n < lowest || n > highest {
				checkRefused(t, "Shift", got, err, api.ErrArg, short(d), n)
				continue
			}
			check(t, "Shift", got, err, number(d.Man.Neg, d.Man.Mag), d.Exp+n, d, dy(int64(n), 0))
		}
	}
}

// A number of places out of range is refused first, even of zero and of numbers that would be too large.
func TestShiftOutOfRange(t *testing.T) {
	for _, d := range few() {
		for _, n := range []int{highest + 1, lowest - 1, 2 * highest, 2 * lowest, 1 << 32, -1 << 32, math.MaxInt, math.MinInt, math.MinInt + 1} {
			got, err := dyadic.Shift(d, n)
			checkRefused(t, "Shift", got, err, api.ErrArg, short(d), n)
		}
	}
	for _, c := range []struct {
		d    api.Dyadic
		n    int
		want api.Errno
	}{
		{dy(1, 0), highest, api.OK}, {dy(1, 0), lowest, api.OK}, {dy(1, 1), highest, api.ErrLarge}, {dy(1, -1), lowest, api.ErrLarge}, {dy(1, highest), lowest, api.OK}, {dy(1, lowest), highest, api.OK}, {dy(0, 0), highest, api.OK}, {dy(0, 0), lowest, api.OK},
		{dy(1, highest), 1, api.ErrLarge}, {dy(1, lowest), -1, api.ErrLarge}, {dy(1, highest), highest, api.ErrLarge}, {dy(1, lowest), lowest, api.ErrLarge},
	} {
		if got, err := dyadic.Shift(c.d, c.n); err != c.want {
			t.Errorf("Shift(%s, %d) = %s, error %d", short(c.d), c.n, short(got), err)
		}
	}
}

// exceeds reports whether 2^n is greater than the absolute value of d.
func exceeds(n int, d api.Dyadic) bool {
	exp := min(n, d.Exp)
	power := new(big.Int).Lsh(big.NewInt(1), uint(n-exp))
	return power.CmpAbs(scaled(d, exp)) > 0
}

func TestTop(t *testing.T) {
	for _, d := range slices.Concat(samples(), few(), small()) {
		got := dyadic.Top(d)
		switch {
		case dyadic.Sign(d) == 0:
			if got != 0 {
				t.Errorf("Top(0) = %d", got)
			}
		case !exceeds(got, d) || exceeds(got-1, d):
			t.Errorf("Top(%s) = %d", short(d), got)
		}
	}
	for _, c := range []struct {
		d    api.Dyadic
		want int
	}{
		{dy(4, 0), 3}, {dy(3, 0), 2}, {dy(-4, 0), 3}, {dy(-3, 0), 2}, {dy(5, 0), 3}, {dy(0, 0), 0}, {dy(1, 0), 1}, {dy(-1, 0), 1}, {dy(1, -1), 0}, {dy(3, -2), 0}, {dy(1, -2), -1}, {dy(-1, -2), -1}, {dy(3, -3), -1}, {dy(1, 40), 41}, {wide(ones(40), 0), 40},
		{wide(ends(41), 0), 41}, {dy(1, highest), highest + 1}, {dy(1, lowest), lowest + 1}, {wide(ones(api.MaxBits), highest), highest + api.MaxBits},
	} {
		if got := dyadic.Top(c.d); got != c.want {
			t.Errorf("Top(%s) = %d", short(c.d), got)
		}
	}
}
