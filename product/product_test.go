package product_test

import (
	"math"
	"math/big"
	"math/rand/v2"
	"slices"
	"testing"

	"exactreal/api"
	"exactreal/nat"
	"exactreal/product"
)

const top = math.MaxUint32

// value returns the number that a list stands for.
func value(a []uint32) *big.Int {
	v := new(big.Int)
	for i, word := range a {
		v.Add(v, new(big.Int).Lsh(big.NewInt(int64(word)), uint(32*i)))
	}
	return v
}

// check reports a result that is not the natural with the value want.
func check(t *testing.T, call string, got []uint32, want *big.Int, args ...any) {
	t.Helper()
	if !nat.Valid(got) || value(got).Cmp(want) != 0 {
		t.Errorf("%s%v = %v, want the elements of %v", call, args, got, want)
	}
}

// scattered returns a natural of n elements; every second of them, about, is 0, 1, 2^31 or 2^32 - 1, which make carries of all sizes.
func scattered(random *rand.Rand, n int) []uint32 {
	special := []uint32{0, 1, 1 << 31, top}
	a := make([]uint32, n)
	for i := range a {
		a[i] = random.Uint32()
		if random.IntN(2) == 0 {
			a[i] = special[random.IntN(len(special))]
		}
	}
	if n > 0 && a[n-1] == 0 {
		a[n-1] = top
	}
	return a
}

// samples returns naturals of 0 to 12 elements, the same ones whenever it is called.
func samples() [][]uint32 {
	all := [][]uint32{nil, {1}, {2}, {3}, {1 << 16}, {1 << 31}, {top}, {0, 1}, {1, 1}, {top, top}, {0, 0, 1}, {top, 0, top}, {0, top, top}, {top, top, top, top}}
	random := rand.New(rand.NewPCG(2, 1))
	for n := 1; n <= 12; n++ {
		all = append(all, scattered(random, n), scattered(random, n))
	}
	return all
}

// longest returns two naturals of MaxBits binary digits.
func longest() (a, b []uint32) {
	random := rand.New(rand.NewPCG(2, 2))
	return slices.Repeat([]uint32{top}, api.MaxBits/32), append(scattered(random, api.MaxBits/32-1), top)
}

// P2.1

func TestMul(t *testing.T) {
	for _, a := range samples() {
		for _, b := range samples() {
			check(t, "Mul", product.Mul(a, b), new(big.Int).Mul(value(a), value(b)), a, b)
		}
	}
}

func TestMulExamples(t *testing.T) {
	if got := product.Mul([]uint32{top}, []uint32{top}); !slices.Equal(got, []uint32{1, 4294967294}) {
		t.Errorf("Mul(2^32 - 1, 2^32 - 1) = %v", got)
	}
	for _, a := range samples() {
		check(t, "Mul", product.Mul(a, nil), big.NewInt(0), a, "no elements")
		check(t, "Mul", product.Mul([]uint32{}, a), big.NewInt(0), "an empty list", a)
		check(t, "Mul", product.Mul(a, []uint32{1}), value(a), a, 1)
		check(t, "Mul", product.Mul([]uint32{1}, a), value(a), 1, a)
	}
}

func TestMulOfOneList(t *testing.T) {
	for _, a := range samples() {
		check(t, "Mul", product.Mul(a, a), new(big.Int).Mul(value(a), value(a)), a, a)
	}
}

func TestSquare(t *testing.T) {
	for _, a := range samples() {
		check(t, "Square", product.Square(a), new(big.Int).Mul(value(a), value(a)), a)
	}
}

func TestLongProducts(t *testing.T) {
	a, b := longest()
	x, y := value(a), value(b)
	check(t, "Mul", product.Mul(a, b), new(big.Int).Mul(x, y), "long", "long")
	check(t, "Mul", product.Mul(b, []uint32{7}), new(big.Int).Mul(y, big.NewInt(7)), "long", 7)
	check(t, "Square", product.Square(a), new(big.Int).Mul(x, x), "long")
	check(t, "Square", product.Square(b), new(big.Int).Mul(y, y), "long")
	want := new(big.Int).Mul(x, big.NewInt(top))
	check(t, "Small", product.Small(a, top, top), want.Add(want, big.NewInt(top)), "long", top, top)
}

func TestSmall(t *testing.T) {
	factors := []uint32{0, 1, 2, 10, 1 << 16, 1 << 31, 1<<31 + 1, 1000000000, top - 1, top}
	for _, a := range samples() {
		for _, m := range factors {
			for _, c := range factors {
				want := new(big.Int).Mul(value(a), big.NewInt(int64(m)))
				check(t, "Small", product.Small(a, m, c), want.Add(want, big.NewInt(int64(c))), a, m, c)
			}
		}
	}
}

func TestSum(t *testing.T) {
	all := samples()
	for i := range all {
		for n := 0; i+n <= len(all) && n <= 6; n++ {
			terms := all[i : i+n]
			want := new(big.Int)
			for _, term := range terms {
				want.Add(want, value(term))
			}
			check(t, "Sum", product.Sum(terms...), want, terms)
		}
	}
}

func TestSumExamples(t *testing.T) {
	one := []uint32{1}
	check(t, "Sum", product.Sum(), big.NewInt(0))
	check(t, "Sum", product.Sum(nil), big.NewInt(0), "no elements")
	check(t, "Sum", product.Sum(nil, []uint32{}, nil), big.NewInt(0), "empty lists")
	check(t, "Sum", product.Sum(nil, one, nil), big.NewInt(1), 0, 1, 0)
	check(t, "Sum", product.Sum(one, one, one), big.NewInt(3), 1, 1, 1)
	check(t, "Sum", product.Sum([]uint32{top, top, top}, one), new(big.Int).Lsh(big.NewInt(1), 96), "2^96 - 1", 1)
	many := slices.Repeat([][]uint32{{top, top}}, 70000)
	check(t, "Sum", product.Sum(many...), new(big.Int).Mul(value(many[0]), big.NewInt(70000)), "70000 times 2^64 - 1")
}

// P2.2

func TestPower(t *testing.T) {
	for _, a := range samples() {
		want := big.NewInt(1)
		for n := 0; n <= api.MaxPower; n++ {
			check(t, "Power", product.Power(a, n), want, a, n)
			want.Mul(want, value(a))
		}
	}
}

func TestPowerExamples(t *testing.T) {
	check(t, "Power", product.Power(nil, 0), big.NewInt(1), 0, 0)
	check(t, "Power", product.Power([]uint32{}, 0), big.NewInt(1), "an empty list", 0)
	check(t, "Power", product.Power(nil, api.MaxPower), big.NewInt(0), 0, api.MaxPower)
	check(t, "Power", product.Power([]uint32{10}, 3), big.NewInt(1000), 10, 3)
	check(t, "Power", product.Power([]uint32{2}, api.MaxPower), new(big.Int).Lsh(big.NewInt(1), api.MaxPower), 2, api.MaxPower)
}

// The chapter's consequences

func TestLawsOfProducts(t *testing.T) {
	all := samples()
	for i, a := range all {
		b, c := all[(i+5)%len(all)], all[(i+11)%len(all)]
		ab, ac := product.Mul(a, b), product.Mul(a, c)
		check(t, "Mul", product.Mul(b, a), value(ab), b, a)
		check(t, "Mul", product.Mul(ab, c), value(product.Mul(a, product.Mul(b, c))), ab, c)
		check(t, "Mul", product.Mul(a, product.Sum(b, c)), value(product.Sum(ab, ac)), a, b, c)
		if bits := nat.Bits(a) + nat.Bits(b); len(a) > 0 && len(b) > 0 && nat.Bits(ab) != bits && nat.Bits(ab) != bits-1 {
			t.Errorf("Mul(%v, %v) has %d bits", a, b, nat.Bits(ab))
		}
	}
}
