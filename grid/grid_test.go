package grid_test

import (
	"encoding/binary"
	"math"
	"math/big"
	"math/rand/v2"
	"slices"
	"testing"

	"exactreal/api"
	"exactreal/grid"
)

const (
	top      = math.MaxUint32
	highest  = api.MaxExponent
	lowest   = -api.MaxExponent
	coarsest = -api.MaxMagnitude
	finest   = 2 * api.MaxWork
)

// number returns the number that a sign and a list stand for, whether they are valid or not.
func number(neg bool, a []uint32) *big.Int {
	var digits []byte
	for _, word := range slices.Backward(a) {
		digits = binary.BigEndian.AppendUint32(digits, word)
	}
	v := new(big.Int).SetBytes(digits)
	if neg {
		v.Neg(v)
	}
	return v
}

// elements returns the natural of the absolute value of v, made without the packages of the project.
func elements(v *big.Int) []uint32 {
	var a []uint32
	digits := v.FillBytes(make([]byte, (v.BitLen()+31)/32*4))
	for i := len(digits); i > 0; i -= 4 {
		a = append(a, binary.BigEndian.Uint32(digits[i-4:]))
	}
	return a
}

func toInt(v *big.Int) api.Int {
	return api.Int{Neg: v.Sign() < 0, Mag: elements(v)}
}

// of returns the valid dyadic of man * 2^exp and true, made without the packages of the project; or a zero value and false if there is none.
func of(man *big.Int, exp int) (api.Dyadic, bool) {
	if man.Sign() == 0 {
		return api.Dyadic{}, true
	}
	zeros := int(man.TrailingZeroBits())
	odd := new(big.Int).Quo(man, power(zeros))
	exp += zeros
	if odd.BitLen() > api.MaxBits || exp < lowest || exp > highest {
		return api.Dyadic{}, false
	}
	return api.Dyadic{Man: toInt(odd), Exp: exp}, true
}

// wide returns the valid dyadic of man * 2^exp, which there must be.
func wide(man *big.Int, exp int) api.Dyadic {
	d, ok := of(man, exp)
	if !ok {
		panic("there is no such dyadic")
	}
	return d
}

func dy(man int64, exp int) api.Dyadic {
	return wide(big.NewInt(man), exp)
}

// frac returns the valid fraction num / den, for den of at least 1.
func frac(num, den *big.Int) api.Rat {
	x := new(big.Rat).SetFrac(num, den)
	return api.Rat{Num: toInt(x.Num()), Den: elements(x.Denom())}
}

func rat(num, den int64) api.Rat {
	return frac(big.NewInt(num), big.NewInt(den))
}

// power returns 2^n.
func power(n int) *big.Int {
	return new(big.Int).Lsh(big.NewInt(1), uint(n))
}

// ones returns the number of n binary digits 1.
func ones(n int) *big.Int {
	return new(big.Int).Sub(power(n), big.NewInt(1))
}

// ends returns the number of n binary digits, at least two, of which only the first and the last one are 1.
func ends(n int) *big.Int {
	return new(big.Int).Add(power(n-1), big.NewInt(1))
}

func negative(v *big.Int) *big.Int {
	return new(big.Int).Neg(v)
}

// same reports whether a and b are identical.
func same(a, b api.Dyadic) bool {
	return a.Man.Neg == b.Man.Neg && slices.Equal(a.Man.Mag, b.Man.Mag) && a.Exp == b.Exp
}

// short returns a number in a form in which it can be printed.
func short(v *big.Int) string {
	text := v.Text(16)
	if len(text) > 60 {
		return text[:30] + ".." + text[len(text)-30:]
	}
	return text
}

func shortDyadic(d api.Dyadic) string {
	return short(number(d.Man.Neg, d.Man.Mag)) + " * 2^" + big.NewInt(int64(d.Exp)).String()
}

// ratio is a number with a denominator that is not zero, and need not be in lowest terms.
type ratio struct{ num, den *big.Int }

func (x ratio) String() string {
	return short(x.num) + " / " + short(x.den)
}

// times returns x * 2^n.
func (x ratio) times(n int) ratio {
	if n < 0 {
		return ratio{x.num, new(big.Int).Lsh(x.den, uint(-n))}
	}
	return ratio{new(big.Int).Lsh(x.num, uint(n)), x.den}
}

// floor, ceil and near return x as an integer. Div rounds down, since denominators are positive.
func (x ratio) floor() *big.Int {
	return new(big.Int).Div(x.num, x.den)
}

func (x ratio) ceil() *big.Int {
	return negative(ratio{negative(x.num), x.den}.floor())
}

func (x ratio) near() *big.Int {
	below, above := x.floor(), x.ceil()
	distance := new(big.Int).Add(below, above)
	distance.Mul(distance, x.den)
	// The one above is nearer unless x is below the middle of both.
	if distance.Cmp(new(big.Int).Lsh(x.num, 1)) <= 0 {
		return above
	}
	return below
}

// value returns the number that a valid dyadic stands for.
func value(d api.Dyadic) ratio {
	return ratio{number(d.Man.Neg, d.Man.Mag), big.NewInt(1)}.times(d.Exp)
}

func valueRat(x api.Rat) ratio {
	return ratio{number(x.Num.Neg, x.Num.Mag), number(false, x.Den)}
}

// check checks the result of a call with a precision, which is n * 2^-p unless there is an error.
func check(t *testing.T, call string, got api.Dyadic, err api.Errno, n *big.Int, p int, arg string) {
	t.Helper()
	want, wantErr := api.Dyadic{}, api.ErrArg
	if p >= coarsest && p <= finest {
		var ok bool
		want, ok = of(n, -p)
		wantErr = api.OK
		if !ok {
			wantErr = api.ErrLarge
		}
	}
	if err != wantErr || !same(got, want) {
		t.Errorf("%s(%s, %d) = %s, error %d, want %s, error %d", call, arg, p, shortDyadic(got), err, shortDyadic(want), wantErr)
	}
}

// checkDyadic checks everything that P9.1 says of a dyadic and a precision.
func checkDyadic(t *testing.T, d api.Dyadic, p int) {
	t.Helper()
	arg := shortDyadic(d)
	scaled := ratio{new(big.Int), big.NewInt(1)}
	isPermitted := p >= coarsest && p <= finest
	if isPermitted {
		scaled = value(d).times(p)
	}
	below, above := scaled.floor(), scaled.ceil()
	if got := grid.On(d, p); got != (isPermitted && below.Cmp(above) == 0) {
		t.Errorf("On(%s, %d) = %v", arg, p, got)
	}
	got, err := grid.Floor(d, p)
	check(t, "Floor", got, err, below, p, arg)
	got, err = grid.Ceil(d, p)
	check(t, "Ceil", got, err, above, p, arg)
	got, err = grid.Near(d, p)
	check(t, "Near", got, err, scaled.near(), p, arg)
}

// checkRat checks what P9.1 says of a fraction and a precision.
func checkRat(t *testing.T, x api.Rat, p int) {
	t.Helper()
	arg := valueRat(x).String()
	scaled := ratio{new(big.Int), big.NewInt(1)}
	if p >= coarsest && p <= finest {
		scaled = valueRat(x).times(p)
	}
	got, err := grid.FloorRat(x, p)
	check(t, "FloorRat", got, err, scaled.floor(), p, arg)
	got, err = grid.CeilRat(x, p)
	check(t, "CeilRat", got, err, scaled.ceil(), p, arg)
}

// mantissas returns odd numbers of one to six elements, the same ones whenever it is called.
func mantissas() []*big.Int {
	var all []*big.Int
	for _, a := range [][]uint32{{1}, {3}, {5}, {7}, {11}, {1<<31 + 1}, {top - 2}, {top}, {1, 1}, {top, 1}, {1, 1 << 31}, {top, top}, {1, 0, 1}, {5, 0, 1 << 31}, {top, top, top}} {
		all = append(all, number(false, a))
	}
	random := rand.New(rand.NewPCG(9, 1))
	for n := 1; n <= 6; n++ {
		a := make([]uint32, n)
		for i := range a {
			a[i] = random.Uint32()
		}
		a[0] |= 1
		all = append(all, number(false, a))
	}
	return all
}

// samples returns dyadics with all mantissas, both signs and exponents of all kinds, and zero.
func samples() []api.Dyadic {
	all := []api.Dyadic{{}}
	for _, man := range mantissas() {
		for _, exp := range []int{0, 1, -1, 2, -3, 31, -32, 33, -64, 100, -100, api.MaxMagnitude, -2 * api.MaxWork, highest, lowest} {
			all = append(all, wide(man, exp), wide(negative(man), exp))
		}
	}
	return all
}

// long returns dyadics with the longest mantissas.
func long() []api.Dyadic {
	var all []api.Dyadic
	for _, exp := range []int{lowest, -api.MaxBits, 1 - api.MaxBits, -finest, -1, 0, 1, -coarsest - 1, -coarsest, highest} {
		for _, man := range []*big.Int{ones(api.MaxBits), ends(api.MaxBits)} {
			all = append(all, wide(man, exp), wide(negative(man), exp))
		}
	}
	return all
}

// precisions returns precisions around those at which something changes for a number: there it lies on the grid, is less than a unit, or half of one.
func precisions(exp, digits int) []int {
	all := []int{0, 1, -1, 2, -2, 31, 32, 33, -32, 1000, -1000, coarsest, coarsest + 1, finest - 1, finest, coarsest - 1, finest + 1}
	for _, border := range []int{-exp, -exp - digits, -exp - digits/2, -exp - 31, -exp - 32, -exp - 33} {
		for d := -2; d <= 2; d++ {
			all = append(all, border+d)
		}
	}
	return all
}

// outside returns precisions that are not permitted.
func outside() []int {
	return []int{coarsest - 1, coarsest - 2, finest + 1, finest + 2, 2 * coarsest, 2 * finest, lowest, highest, 2*highest + 1, 2*lowest - 1, api.MaxShift, -api.MaxShift, 1 << 32, -1 << 32, 1<<32 + 5, math.MaxInt32, math.MinInt32, math.MaxInt, math.MaxInt - 1, math.MaxInt - highest, math.MinInt, math.MinInt + 1, math.MinInt + highest}
}

func TestExamples(t *testing.T) {
	for _, c := range []struct {
		d                 api.Dyadic
		p                 int
		floor, ceil, near api.Dyadic
	}{
		{dy(-1, -2), 1, dy(-1, -1), dy(0, 0), dy(0, 0)}, {dy(3, -2), 1, dy(1, -1), dy(1, 0), dy(1, 0)}, {dy(1, -2), 1, dy(0, 0), dy(1, -1), dy(1, -1)}, {dy(-3, -2), 1, dy(-1, 0), dy(-1, -1), dy(-1, -1)},
		{dy(0, 0), 0, dy(0, 0), dy(0, 0), dy(0, 0)}, {dy(1, 0), 0, dy(1, 0), dy(1, 0), dy(1, 0)}, {dy(-1, 0), 5, dy(-1, 0), dy(-1, 0), dy(-1, 0)}, {dy(1, 0), -1, dy(0, 0), dy(1, 1), dy(1, 1)}, {dy(-1, 0), -1, dy(-1, 1), dy(0, 0), dy(0, 0)},
		{dy(5, 0), -1, dy(1, 2), dy(3, 1), dy(3, 1)}, {dy(-5, 0), -1, dy(-3, 1), dy(-1, 2), dy(-1, 2)}, {dy(5, 0), -2, dy(1, 2), dy(1, 3), dy(1, 2)}, {dy(-5, 0), -2, dy(-1, 3), dy(-1, 2), dy(-1, 2)}, {dy(7, 0), -2, dy(1, 2), dy(1, 3), dy(1, 3)},
		{dy(5, -3), 2, dy(1, -1), dy(3, -2), dy(3, -2)}, {dy(5, -3), 1, dy(1, -1), dy(1, 0), dy(1, -1)}, {dy(5, -3), 3, dy(5, -3), dy(5, -3), dy(5, -3)}, {dy(7, -3), 0, dy(0, 0), dy(1, 0), dy(1, 0)}, {dy(-7, -3), 0, dy(-1, 0), dy(0, 0), dy(-1, 0)},
		{dy(1, -1), 0, dy(0, 0), dy(1, 0), dy(1, 0)}, {dy(-1, -1), 0, dy(-1, 0), dy(0, 0), dy(0, 0)}, {dy(3, -1), 0, dy(1, 0), dy(1, 1), dy(1, 1)}, {dy(-3, -1), 0, dy(-1, 1), dy(-1, 0), dy(-1, 0)}, {dy(1, -3), 0, dy(0, 0), dy(1, 0), dy(0, 0)},
		{dy(1, 40), -40, dy(1, 40), dy(1, 40), dy(1, 40)}, {dy(1, 40), -41, dy(0, 0), dy(1, 41), dy(1, 41)}, {wide(ends(41), 0), -40, dy(1, 40), dy(1, 41), dy(1, 40)}, {wide(ones(40), 0), -1, wide(ones(39), 1), dy(1, 40), dy(1, 40)},
	} {
		floor, err := grid.Floor(c.d, c.p)
		if err != api.OK || !same(floor, c.floor) {
			t.Errorf("Floor(%s, %d) = %s, error %d", shortDyadic(c.d), c.p, shortDyadic(floor), err)
		}
		ceil, err := grid.Ceil(c.d, c.p)
		if err != api.OK || !same(ceil, c.ceil) {
			t.Errorf("Ceil(%s, %d) = %s, error %d", shortDyadic(c.d), c.p, shortDyadic(ceil), err)
		}
		near, err := grid.Near(c.d, c.p)
		if err != api.OK || !same(near, c.near) {
			t.Errorf("Near(%s, %d) = %s, error %d", shortDyadic(c.d), c.p, shortDyadic(near), err)
		}
	}
}

func TestSamples(t *testing.T) {
	for _, d := range samples() {
		digits := number(false, d.Man.Mag).BitLen()
		for _, p := range precisions(d.Exp, digits) {
			checkDyadic(t, d, p)
		}
	}
}

func TestLongMantissas(t *testing.T) {
	for _, d := range long() {
		for i, p := range precisions(d.Exp, api.MaxBits) {
			if i%2 == 0 || p == coarsest || p == finest {
				checkDyadic(t, d, p)
			}
		}
	}
}

func TestSmallNumbers(t *testing.T) {
	for n := int64(-80); n <= 80; n++ {
		for p := -6; p <= 7; p++ {
			checkDyadic(t, dy(n, -4), p)
			checkDyadic(t, dy(n, 0), p)
		}
	}
}

func TestOn(t *testing.T) {
	for p := coarsest; p <= finest; p++ {
		for _, c := range []struct {
			d    api.Dyadic
			want bool
		}{{dy(1, -p), true}, {dy(-1, -p), true}, {dy(3, -p), true}, {dy(-5, 1-p), true}, {dy(1, 1-p), true}, {dy(1, -p-1), false}, {dy(-1, -p-1), false}, {dy(-7, -p-1), false}, {dy(0, 0), true}, {dy(1, highest), true}, {dy(-1, lowest), false}} {
			if got := grid.On(c.d, p); got != c.want {
				t.Errorf("On(%s, %d) = %v", shortDyadic(c.d), p, got)
			}
		}
	}
}

func TestUnit(t *testing.T) {
	for p := coarsest; p <= finest; p++ {
		got, err := grid.Unit(p)
		if err != api.OK || got.Man.Neg || !slices.Equal(got.Man.Mag, []uint32{1}) || got.Exp != -p {
			t.Errorf("Unit(%d) = %s, error %d", p, shortDyadic(got), err)
		}
	}
}

// A precision out of range is refused first, also of zero, of numbers on all grids, and where a result would be too large.
func TestPrecisionsOutside(t *testing.T) {
	tooLarge := wide(ones(api.MaxBits), -coarsest-1)
	for _, p := range outside() {
		got, err := grid.Unit(p)
		check(t, "Unit", got, err, nil, p, "")
		for _, d := range []api.Dyadic{{}, dy(1, 0), dy(-1, 0), dy(5, -3), dy(1, highest), dy(-3, lowest), tooLarge, wide(negative(ones(api.MaxBits)), highest)} {
			checkDyadic(t, d, p)
		}
		for _, x := range []api.Rat{rat(0, 1), rat(1, 1), rat(-1, 3), frac(power(highest+1), big.NewInt(1)), frac(ones(api.MaxBits+1), big.NewInt(1)), frac(big.NewInt(-1), power(highest+1))} {
			checkRat(t, x, p)
		}
	}
	if got, err := grid.Ceil(tooLarge, coarsest); err != api.ErrLarge {
		t.Errorf("Ceil of a number that is too large at %d: %s, error %d", coarsest, shortDyadic(got), err)
	}
}

// The precisions at both ends of the range, and one beyond each.
func TestEndsOfThePrecisions(t *testing.T) {
	for _, c := range []struct {
		p    int
		want api.Errno
	}{{coarsest - 1, api.ErrArg}, {coarsest, api.OK}, {finest, api.OK}, {finest + 1, api.ErrArg}} {
		one, half := dy(1, 0), rat(-1, 2)
		_, unit := grid.Unit(c.p)
		_, floor := grid.Floor(one, c.p)
		_, ceil := grid.Ceil(one, c.p)
		_, near := grid.Near(one, c.p)
		_, floorRat := grid.FloorRat(half, c.p)
		_, ceilRat := grid.CeilRat(half, c.p)
		for _, err := range []api.Errno{unit, floor, ceil, near, floorRat, ceilRat} {
			if err != c.want {
				t.Errorf("at %d: errors %d, %d, %d, %d, %d, %d", c.p, unit, floor, ceil, near, floorRat, ceilRat)
			}
		}
		if zero := grid.On(api.Dyadic{}, c.p); zero != (c.want == api.OK) {
			t.Errorf("On(0, %d) = %v", c.p, zero)
		}
	}
}

// A mantissa that is rounded to a power of two gets an exponent that may be too large.
func TestResultsAtTheLimits(t *testing.T) {
	digits := highest + coarsest
	for _, c := range []struct {
		name              string
		d                 api.Dyadic
		p                 int
		floor, ceil, near api.Errno
	}{
		{"a carry to the greatest exponent", wide(ones(digits+1), -coarsest-1), coarsest, api.OK, api.OK, api.OK}, {"a carry beyond it", wide(ones(digits+2), -coarsest-1), coarsest, api.OK, api.ErrLarge, api.ErrLarge},
		{"a carry of the longest", wide(ones(api.MaxBits), -coarsest-1), coarsest, api.OK, api.ErrLarge, api.ErrLarge}, {"a carry of the longest to the greatest exponent", wide(ones(api.MaxBits), 0), coarsest, api.OK, api.OK, api.OK}, {"a carry of the longest beyond it", wide(ones(api.MaxBits), 1), coarsest, api.OK, api.ErrLarge, api.ErrLarge},
		{"down to the greatest exponent", wide(ends(digits+2), -coarsest-1), coarsest, api.OK, api.OK, api.OK}, {"down beyond it", wide(ends(digits+3), -coarsest-1), coarsest, api.ErrLarge, api.OK, api.OK}, {"down beyond it, near", wide(ends(digits+4), -coarsest-2), coarsest, api.ErrLarge, api.OK, api.ErrLarge},
		{"a carry beyond it on a finer grid", wide(ones(digits+3), -coarsest-2), coarsest + 1, api.OK, api.ErrLarge, api.ErrLarge}, {"no carry on a grid that is fine enough", wide(ones(digits+3), -coarsest-2), coarsest + 2, api.OK, api.OK, api.OK}, {"the greatest", wide(ones(api.MaxBits), highest), coarsest, api.OK, api.OK, api.OK},
		{"the greatest at the finest", wide(ones(api.MaxBits), highest), finest, api.OK, api.OK, api.OK}, {"the least at the finest", dy(1, lowest), finest, api.OK, api.OK, api.OK}, {"the least at the coarsest", dy(1, lowest), coarsest, api.OK, api.OK, api.OK},
	} {
		checkDyadic(t, c.d, c.p)
		opposite := api.Dyadic{Man: api.Int{Neg: true, Mag: c.d.Man.Mag}, Exp: c.d.Exp}
		checkDyadic(t, opposite, c.p)
		_, floor := grid.Floor(c.d, c.p)
		_, ceil := grid.Ceil(c.d, c.p)
		_, near := grid.Near(c.d, c.p)
		if floor != c.floor || ceil != c.ceil || near != c.near {
			t.Errorf("%s: errors %d, %d, %d", c.name, floor, ceil, near)
		}
		_, floor = grid.Floor(opposite, c.p)
		_, ceil = grid.Ceil(opposite, c.p)
		if floor != c.ceil || ceil != c.floor {
			t.Errorf("%s, negative: errors %d, %d", c.name, floor, ceil)
		}
	}
}

// Numbers that are smaller than a unit, however much.
func TestBelowAUnit(t *testing.T) {
	for _, p := range []int{coarsest, coarsest + 1, -1000, -33, -1, 0, 1, 31, 32, 1000, finest - 1, finest} {
		unit, opposite := dy(1, -p), dy(-1, -p)
		for _, d := range []api.Dyadic{dy(1, lowest), dy(1, -p-1), dy(1, -p-2), dy(3, -p-2), dy(5, -p-3), wide(ones(1000), -p-1000), wide(ends(1000), -p-1000), wide(ones(40000), -p-40001), wide(ones(1000), lowest)} {
			checkDyadic(t, d, p)
			floor, _ := grid.Floor(d, p)
			ceil, _ := grid.Ceil(d, p)
			d.Man.Neg = true
			checkDyadic(t, d, p)
			lower, _ := grid.Floor(d, p)
			upper, _ := grid.Ceil(d, p)
			if !same(floor, api.Dyadic{}) || !same(ceil, unit) || !same(lower, opposite) || !same(upper, api.Dyadic{}) {
				t.Errorf("with both signs of %s at %d: %s and %s, %s and %s", shortDyadic(d), p, shortDyadic(floor), shortDyadic(ceil), shortDyadic(lower), shortDyadic(upper))
			}
		}
	}
}

// Of a number halfway between n and n + 1 units, the greater one is nearest; just beside the middle, the one on this side.
func TestNearTheMiddle(t *testing.T) {
	neighbours := []*big.Int{new(big.Int), big.NewInt(-1)}
	for _, n := range mantissas() {
		neighbours = append(neighbours, n, negative(n), new(big.Int).Sub(n, big.NewInt(1)), new(big.Int).Sub(big.NewInt(1), n))
	}
	for _, n := range neighbours {
		above := new(big.Int).Add(n, big.NewInt(1))
		middle := new(big.Int).Add(n, above)
		for _, p := range []int{coarsest, -33, -1, 0, 1, 32, finest} {
			got, err := grid.Near(wide(middle, -p-1), p)
			check(t, "Near", got, err, above, p, "the middle above "+short(n))
			for _, places := range []int{1, 2, 31, 32, 100, 20000} {
				fine := new(big.Int).Lsh(middle, uint(places))
				got, err = grid.Near(wide(new(big.Int).Add(fine, big.NewInt(1)), -p-1-places), p)
				check(t, "Near", got, err, above, p, "above the middle above "+short(n))
				got, err = grid.Near(wide(new(big.Int).Sub(fine, big.NewInt(1)), -p-1-places), p)
				check(t, "Near", got, err, n, p, "below the middle above "+short(n))
			}
		}
	}
}

// exactly returns a dyadic as a number, for exponents for which this does not take long.
func exactly(d api.Dyadic) *big.Rat {
	x := value(d)
	return new(big.Rat).SetFrac(x.num, x.den)
}

// Floor and Ceil differ by a unit, or both are the argument; Near is one of both, and differs from the argument by at most half a unit.
func TestConsequences(t *testing.T) {
	for _, d := range samples() {
		if d.Exp < -1000 || d.Exp > 1000 {
			continue
		}
		x := exactly(d)
		for p := -130; p <= 130; p += 3 {
			unit, _ := grid.Unit(p)
			floor, _ := grid.Floor(d, p)
			ceil, _ := grid.Ceil(d, p)
			near, _ := grid.Near(d, p)
			difference := new(big.Rat).Sub(exactly(ceil), exactly(floor))
			if grid.On(d, p) {
				if !same(floor, d) || !same(ceil, d) || !same(near, d) {
					t.Errorf("%s lies on the grid of %d, but is rounded", shortDyadic(d), p)
				}
				continue
			}
			if difference.Cmp(exactly(unit)) != 0 || exactly(floor).Cmp(x) >= 0 || exactly(ceil).Cmp(x) <= 0 || !grid.On(floor, p) || !grid.On(ceil, p) {
				t.Errorf("%s at %d lies between %s and %s", shortDyadic(d), p, shortDyadic(floor), shortDyadic(ceil))
			}
			distance := new(big.Rat).Sub(exactly(near), x)
			doubled := new(big.Rat).Add(distance, distance)
			if c := doubled.Abs(doubled).Cmp(exactly(unit)); c > 0 || c == 0 && distance.Sign() < 0 || !same(near, floor) && !same(near, ceil) {
				t.Errorf("Near(%s, %d) = %s", shortDyadic(d), p, shortDyadic(near))
			}
		}
	}
}

func TestFractionsOfExamples(t *testing.T) {
	for _, c := range []struct {
		num, den    int64
		p           int
		floor, ceil api.Dyadic
	}{
		{1, 3, 2, dy(1, -2), dy(1, -1)}, {-1, 3, 2, dy(-1, -1), dy(-1, -2)}, {1, 3, 0, dy(0, 0), dy(1, 0)}, {-1, 3, 0, dy(-1, 0), dy(0, 0)}, {0, 1, 7, dy(0, 0), dy(0, 0)}, {0, 1, -7, dy(0, 0), dy(0, 0)}, {1, 1, 0, dy(1, 0), dy(1, 0)}, {-1, 1, 3, dy(-1, 0), dy(-1, 0)},
		{5, 1, -2, dy(1, 2), dy(1, 3)}, {-5, 1, -2, dy(-1, 3), dy(-1, 2)}, {6, 1, -1, dy(3, 1), dy(3, 1)}, {3, 4, 1, dy(1, -1), dy(1, 0)}, {3, 4, 2, dy(3, -2), dy(3, -2)}, {3, 4, 40, dy(3, -2), dy(3, -2)}, {-3, 4, 1, dy(-1, 0), dy(-1, -1)},
		{22, 7, 0, dy(3, 0), dy(1, 2)}, {22, 7, -1, dy(1, 1), dy(1, 2)}, {22, 7, -2, dy(0, 0), dy(1, 2)}, {-22, 7, -2, dy(-1, 2), dy(0, 0)}, {33, 2, -2, dy(1, 4), dy(5, 2)}, {31, 2, -4, dy(0, 0), dy(1, 4)}, {1, 5, 3, dy(1, -3), dy(1, -2)},
	} {
		floor, err := grid.FloorRat(rat(c.num, c.den), c.p)
		if err != api.OK || !same(floor, c.floor) {
			t.Errorf("FloorRat(%d / %d, %d) = %s, error %d", c.num, c.den, c.p, shortDyadic(floor), err)
		}
		ceil, err := grid.CeilRat(rat(c.num, c.den), c.p)
		if err != api.OK || !same(ceil, c.ceil) {
			t.Errorf("CeilRat(%d / %d, %d) = %s, error %d", c.num, c.den, c.p, shortDyadic(ceil), err)
		}
	}
}

func TestSmallFractions(t *testing.T) {
	for num := int64(-40); num <= 40; num++ {
		for den := int64(1); den <= 20; den++ {
			for p := -7; p <= 7; p++ {
				checkRat(t, rat(num, den), p)
			}
		}
	}
}

// Whole numbers, denominators that are powers of two, and others, of one and of many elements.
func TestFractions(t *testing.T) {
	dens := append(mantissas(), power(1), power(31), power(32), power(100), ends(3000), power(8191), power(8192), power(8193))
	nums := append(mantissas(), power(5), power(64), ones(3000))
	for i, num := range nums {
		for j, den := range dens {
			for k, p := range []int{0, 1, -1, 31, 32, -33, 100, -200, 1000, -1000, api.MaxWork, coarsest, finest} {
				if (i+j+k)%2 == 0 {
					checkRat(t, frac(num, den), p)
					checkRat(t, frac(negative(num), den), p)
				}
			}
		}
	}
}

// Multiples of a unit, and numbers that are just beside one.
func TestFractionsBesideTheGrid(t *testing.T) {
	for _, n := range mantissas() {
		for _, den := range []*big.Int{big.NewInt(3), big.NewInt(7), ones(32), ends(100), ones(1000)} {
			multiple := new(big.Int).Mul(n, den)
			for _, p := range []int{coarsest, -1, 0, 1, 33, finest} {
				for d := int64(-1); d <= 1; d++ {
					beside := ratio{new(big.Int).Add(multiple, big.NewInt(d)), den}.times(-p)
					checkRat(t, frac(beside.num, beside.den), p)
					checkRat(t, frac(negative(beside.num), beside.den), p)
				}
			}
		}
	}
}

// For a fraction that a dyadic stands for, the results are those for the dyadic.
func TestFractionsOfDyadics(t *testing.T) {
	for i, d := range samples() {
		if d.Exp < -10000 || d.Exp > 10000 {
			continue
		}
		v := value(d)
		x := frac(v.num, v.den)
		for j, p := range precisions(d.Exp, number(false, d.Man.Mag).BitLen()) {
			if (i+j)%3 != 0 {
				continue
			}
			floor, err := grid.Floor(d, p)
			floorRat, errRat := grid.FloorRat(x, p)
			if err != errRat || !same(floor, floorRat) {
				t.Errorf("FloorRat(%s, %d) = %s, error %d", shortDyadic(d), p, shortDyadic(floorRat), errRat)
			}
			ceil, err := grid.Ceil(d, p)
			ceilRat, errRat := grid.CeilRat(x, p)
			if err != errRat || !same(ceil, ceilRat) {
				t.Errorf("CeilRat(%s, %d) = %s, error %d", shortDyadic(d), p, shortDyadic(ceilRat), errRat)
			}
		}
	}
}

// Results of MaxBits binary digits, and of one more; the zeros at the end count for the exponent only.
func TestFractionsAtTheLimits(t *testing.T) {
	one, two, three := big.NewInt(1), big.NewInt(2), big.NewInt(3)
	for _, c := range []struct {
		name        string
		num, den    *big.Int
		p           int
		floor, ceil api.Errno
	}{
		{"MaxBits digits", ones(api.MaxBits), one, 0, api.OK, api.OK}, {"one digit more", ones(api.MaxBits + 1), one, 0, api.ErrLarge, api.ErrLarge}, {"one digit more, at its ends", ends(api.MaxBits + 1), one, 0, api.ErrLarge, api.ErrLarge},
		{"one digit less on a coarser grid", ends(api.MaxBits + 1), one, -1, api.OK, api.OK}, {"a carry on a coarser grid", ones(api.MaxBits + 1), one, -1, api.OK, api.ErrLarge}, {"a half with MaxBits digits", ones(api.MaxBits), two, 1, api.OK, api.OK}, {"a half with one digit more", ones(api.MaxBits + 1), two, 1, api.ErrLarge, api.ErrLarge}, {"a half, rounded", ones(api.MaxBits + 1), two, 0, api.OK, api.OK},
		{"the greatest exponent", power(highest), one, 0, api.OK, api.OK}, {"the greatest exponent at the finest", power(highest), one, finest, api.OK, api.OK}, {"the greatest exponent at the coarsest", power(highest), one, coarsest, api.OK, api.OK}, {"too great an exponent", power(highest + 1), one, 0, api.ErrLarge, api.ErrLarge},
		{"too great an exponent at the coarsest", power(highest + 1), one, coarsest, api.ErrLarge, api.ErrLarge}, {"down from too great an exponent", ones(highest + 1), one, coarsest, api.OK, api.ErrLarge}, {"up to the greatest exponent", ones(highest), one, coarsest, api.OK, api.OK},
		{"a third", power(api.MaxBits), three, 0, api.OK, api.OK}, {"a third of too many digits", power(api.MaxBits + 9), three, 0, api.ErrLarge, api.ErrLarge}, {"a third on a coarse grid", power(api.MaxBits + 9), three, -9, api.OK, api.OK}, {"a third on a fine grid", power(api.MaxBits + 1 - finest), three, finest, api.OK, api.OK}, {"a third on too fine a grid", power(api.MaxBits + 9 - finest), three, finest, api.ErrLarge, api.ErrLarge},
		{"far too great", power(200000), three, finest, api.ErrLarge, api.ErrLarge}, {"far below", one, power(200000), finest, api.OK, api.OK}, {"far below a coarse unit", one, ends(200000), coarsest, api.OK, api.OK}, {"long parts of a small number", ones(200000), ends(200000), 0, api.OK, api.OK}, {"long parts at the coarsest", ones(200000), ends(199000), coarsest, api.OK, api.OK},
	} {
		x := frac(c.num, c.den)
		checkRat(t, x, c.p)
		_, floor := grid.FloorRat(x, c.p)
		_, ceil := grid.CeilRat(x, c.p)
		if floor != c.floor || ceil != c.ceil {
			t.Errorf("%s: errors %d, %d", c.name, floor, ceil)
		}
		opposite := frac(negative(c.num), c.den)
		checkRat(t, opposite, c.p)
		_, floor = grid.FloorRat(opposite, c.p)
		_, ceil = grid.CeilRat(opposite, c.p)
		if floor != c.ceil || ceil != c.floor {
			t.Errorf("%s, negative: errors %d, %d", c.name, floor, ceil)
		}
	}
}
