package root_test

import (
	"math"
	"math/big"
	"math/rand/v2"
	"slices"
	"testing"

	"exactreal/api"
	"exactreal/nat"
	"exactreal/product"
	"exactreal/root"
)

const top = math.MaxUint32

// value returns the number that a list stands for.
func value(a []uint32) *big.Int {
	v := new(big.Int)
	for i := len(a) - 1; i >= 0; i-- {
		v.Lsh(v, 32).Or(v, big.NewInt(int64(a[i])))
	}
	return v
}

// stands reports whether a is the natural with the value v.
func stands(a []uint32, v *big.Int) bool {
	return nat.Valid(a) && value(a).Cmp(v) == 0
}

// scattered returns a natural of n elements, about half of which are at the edges of their range.
func scattered(random *rand.Rand, n int) []uint32 {
	edges := []uint32{0, 1, 2, 1 << 31, top - 1, top}
	a := make([]uint32, n)
	for i := range a {
		a[i] = random.Uint32()
		if random.IntN(2) == 0 {
			a[i] = edges[random.IntN(len(edges))]
		}
	}
	if n > 0 && a[n-1] == 0 {
		a[n-1] = 1
	}
	return a
}

// samples returns naturals of 0 to 10 elements, the same ones whenever it is called.
func samples() [][]uint32 {
	all := [][]uint32{nil, {1}, {2}, {3}, {6}, {10}, {80}, {1000000007}, {1<<31 - 1}, {1 << 31}, {top}, {0, 1}, {1, 1}, {0, 1 << 31}, {top, top}, {0, 0, 1}, {top, 0, top}, {0, top, top}, {top, top, top, top}}
	random := rand.New(rand.NewPCG(4, 1))
	for n := 1; n <= 10; n++ {
		all = append(all, scattered(random, n), scattered(random, n))
	}
	return all
}

// full returns the natural of n elements that are all 2^32 - 1.
func full(n int) []uint32 {
	return slices.Repeat([]uint32{top}, n)
}

// neighbours returns a, and the naturals next to it and next to these.
func neighbours(a []uint32) [][]uint32 {
	all := [][]uint32{a}
	for d := uint64(1); d <= 2; d++ {
		all = append(all, nat.Add(a, nat.Of(d)))
		if less, ok := nat.Sub(a, nat.Of(d)); ok {
			all = append(all, less)
		}
	}
	return all
}

// P4.1

// checkSqrt checks Sqrt and Square for one natural.
func checkSqrt(t *testing.T, a []uint32) {
	t.Helper()
	want := new(big.Int).Sqrt(value(a))
	wantRest := new(big.Int).Sub(value(a), new(big.Int).Mul(want, want))
	r, rest := root.Sqrt(a)
	if !stands(r, want) || !stands(rest, wantRest) {
		t.Errorf("Sqrt(%v) = %v, %v, want the elements of %v, %v", a, r, rest, want, wantRest)
	}
	if nat.Cmp(rest, nat.Shl(r, 1)) > 0 {
		t.Errorf("Sqrt(%v) = %v, %v: the rest is more than twice the root", a, r, rest)
	}
	square := wantRest.Sign() == 0
	r, ok := root.Square(a)
	if ok != square || ok && !stands(r, want) || !ok && len(r) > 0 {
		t.Errorf("Square(%v) = %v, %v, want %v", a, r, ok, square)
	}
}

func TestSqrt(t *testing.T) {
	for _, a := range samples() {
		checkSqrt(t, a)
	}
	for n := range uint64(5000) {
		checkSqrt(t, nat.Of(n))
	}
	for n := range 200 {
		checkSqrt(t, nat.Shl([]uint32{1}, n))
	}
}

func TestSqrtCloseToSquares(t *testing.T) {
	for _, r := range samples() {
		square := product.Square(r)
		for _, a := range append(neighbours(square), neighbours(nat.Add(square, r))...) {
			checkSqrt(t, a)
		}
	}
}

func TestSqrtOfFullElements(t *testing.T) {
	for n := 1; n <= 40; n++ {
		for _, a := range neighbours(full(n)) {
			checkSqrt(t, a)
		}
		for _, a := range neighbours(product.Square(full(n))) {
			checkSqrt(t, a)
		}
	}
}

func TestSqrtExamples(t *testing.T) {
	if r, rest := root.Sqrt([]uint32{10}); !slices.Equal(r, []uint32{3}) || !slices.Equal(rest, []uint32{1}) {
		t.Errorf("Sqrt(10) = %v, %v", r, rest)
	}
	for _, zero := range [][]uint32{nil, {}} {
		if r, rest := root.Sqrt(zero); len(r) > 0 || len(rest) > 0 {
			t.Errorf("Sqrt(0) = %v, %v", r, rest)
		}
		if r, ok := root.Square(zero); !ok || len(r) > 0 {
			t.Errorf("Square(0) = %v, %v", r, ok)
		}
	}
}

func TestSquareExamples(t *testing.T) {
	for _, c := range []struct {
		a, want []uint32
		ok      bool
	}{
		{[]uint32{1}, []uint32{1}, true}, {[]uint32{2}, nil, false}, {[]uint32{3}, nil, false}, {[]uint32{4}, []uint32{2}, true},
		{[]uint32{0, 1}, []uint32{1 << 16}, true}, {[]uint32{0, 2}, nil, false}, {[]uint32{0, 0, 1}, []uint32{0, 1}, true}, {[]uint32{1, top - 1}, []uint32{top}, true},
	} {
		if r, ok := root.Square(c.a); ok != c.ok || !slices.Equal(r, c.want) {
			t.Errorf("Square(%v) = %v, %v", c.a, r, ok)
		}
	}
}

// checkRoot checks a root by what determines it, for k from 1 to MaxPower.
func checkRoot(t *testing.T, a []uint32, k int) {
	t.Helper()
	r, ok := root.Root(a, k)
	power := big.NewInt(int64(k))
	below := new(big.Int).Exp(value(r), power, nil)
	above := new(big.Int).Exp(new(big.Int).Add(value(r), big.NewInt(1)), power, nil)
	if !ok || !nat.Valid(r) || below.Cmp(value(a)) > 0 || above.Cmp(value(a)) <= 0 {
		t.Errorf("Root(%v, %d) = %v, %v", a, k, r, ok)
	}
}

func TestRoot(t *testing.T) {
	for k := 1; k <= api.MaxPower; k++ {
		for _, a := range samples() {
			checkRoot(t, a, k)
		}
		for n := range uint64(300) {
			checkRoot(t, nat.Of(n), k)
		}
		for n := range 2*k + 2 {
			checkRoot(t, nat.Shl([]uint32{1}, n), k)
			checkRoot(t, nat.Shl([]uint32{3}, n), k)
		}
	}
}

func TestRootCloseToPowers(t *testing.T) {
	for k := 1; k <= api.MaxPower; k++ {
		for _, r := range samples()[:28] {
			for _, a := range neighbours(product.Power(r, k)) {
				checkRoot(t, a, k)
			}
			want, ok := root.Root(product.Power(r, k), k)
			if !ok || !slices.Equal(want, r) {
				t.Errorf("Root(%v to the power %d, %d) = %v, %v", r, k, k, want, ok)
			}
		}
	}
}

func TestRootOfFullElements(t *testing.T) {
	for k := 1; k <= api.MaxPower; k++ {
		for _, n := range []int{1, 2, 3, 5, 8, 13, 64, 65} {
			for _, a := range neighbours(full(n)) {
				checkRoot(t, a, k)
			}
		}
	}
}

func TestRootExamples(t *testing.T) {
	for _, c := range []struct {
		a    []uint32
		k    int
		want []uint32
	}{
		{[]uint32{80}, 4, []uint32{2}}, {[]uint32{81}, 4, []uint32{3}}, {[]uint32{10}, 2, []uint32{3}}, {[]uint32{7, 7}, 1, []uint32{7, 7}},
		{nil, 1, nil}, {nil, 2, nil}, {nil, 64, nil}, {[]uint32{1}, 1, []uint32{1}}, {[]uint32{1}, 64, []uint32{1}},
		{[]uint32{5}, 3, []uint32{1}}, {[]uint32{5}, 64, []uint32{1}}, {full(2), 64, []uint32{1}}, {[]uint32{0, 0, 1}, 64, []uint32{2}}, {[]uint32{0, 0, 1}, 63, []uint32{2}}, {full(2), 63, []uint32{2}},
	} {
		if r, ok := root.Root(c.a, c.k); !ok || !slices.Equal(r, c.want) {
			t.Errorf("Root(%v, %d) = %v, %v, want %v", c.a, c.k, r, ok, c.want)
		}
	}
}

func TestRootOfOtherOrders(t *testing.T) {
	for _, a := range samples() {
		for _, k := range []int{0, -1, -2, -64, api.MaxPower + 1, 128, 1 << 32, 1<<32 + 2, math.MaxInt, math.MinInt} {
			if r, ok := root.Root(a, k); ok || len(r) > 0 {
				t.Errorf("Root(%v, %d) = %v, %v", a, k, r, ok)
			}
		}
	}
}

func TestLongRoots(t *testing.T) {
	random := rand.New(rand.NewPCG(4, 2))
	for _, n := range []int{100, 1000, api.MaxBits / 32} {
		for _, a := range [][]uint32{scattered(random, n), full(n), append(make([]uint32, n-1), 1)} {
			checkSqrt(t, a)
			for _, k := range []int{1, 2, 3, 7, 63, 64} {
				checkRoot(t, a, k)
			}
		}
	}
}

// Roots that no longer fit where nat.Shl shifts by MaxShift places at most.
func TestVeryLongRoots(t *testing.T) {
	long := full(api.MaxShift/32 + 2)
	if r, ok := root.Root(long, 1); !ok || !slices.Equal(r, long) {
		t.Error("Root(2^1048640 - 1, 1) is wrong")
	}
	if testing.Short() {
		t.Skip("a root of 2^21 digits takes long")
	}
	power := append(make([]uint32, 4*api.MaxShift/32+2), 1)
	want := append(make([]uint32, 2*api.MaxShift/32+1), 1)
	if r, rest := root.Sqrt(power); !slices.Equal(r, want) || len(rest) > 0 {
		t.Error("Sqrt(2^4194368) is wrong")
	}
}

// P4.2

// checkGcd checks Gcd and Lowest for one pair.
func checkGcd(t *testing.T, a, b []uint32) {
	t.Helper()
	want := new(big.Int).GCD(nil, nil, value(a), value(b))
	if got := root.Gcd(a, b); !stands(got, want) {
		t.Errorf("Gcd(%v, %v) = %v, want the elements of %v", a, b, got, want)
	}
	if len(b) == 0 {
		return
	}
	wantX, wantY := new(big.Int).Quo(value(a), want), new(big.Int).Quo(value(b), want)
	x, y, ok := root.Lowest(a, b)
	if !ok || !stands(x, wantX) || !stands(y, wantY) {
		t.Errorf("Lowest(%v, %v) = %v, %v, %v, want the elements of %v, %v", a, b, x, y, ok, wantX, wantY)
	}
	if got := root.Gcd(x, y); !slices.Equal(got, []uint32{1}) {
		t.Errorf("Lowest(%v, %v) = %v, %v, with the common divisor %v", a, b, x, y, got)
	}
}

func TestGcd(t *testing.T) {
	for _, a := range samples() {
		for _, b := range samples() {
			checkGcd(t, a, b)
			for _, d := range [][]uint32{{2}, {12}, {top}, {0, 1}, {top, top, 1}} {
				checkGcd(t, product.Mul(a, d), product.Mul(b, d))
			}
		}
	}
	for a := range uint64(70) {
		for b := range uint64(70) {
			checkGcd(t, nat.Of(a), nat.Of(b))
		}
	}
}

func TestGcdOfNeighboursAndFullElements(t *testing.T) {
	for m := 1; m <= 12; m++ {
		for n := 1; n <= 12; n++ {
			checkGcd(t, full(m), full(n))
			for _, b := range neighbours(full(n)) {
				checkGcd(t, full(m), b)
				checkGcd(t, b, product.Power(full(m), 2))
			}
		}
	}
}

// Of two Fibonacci numbers that follow each other, the quotient is 1 in every step.
func TestGcdOfFibonacciNumbers(t *testing.T) {
	a, b := nat.Of(0), nat.Of(1)
	for range 1000 {
		checkGcd(t, a, b)
		checkGcd(t, product.Small(b, 6, 0), product.Small(a, 6, 0))
		a, b = b, nat.Add(a, b)
	}
}

func TestGcdWithZero(t *testing.T) {
	for _, zero := range [][]uint32{nil, {}} {
		if got := root.Gcd(zero, zero); len(got) > 0 {
			t.Errorf("Gcd(0, 0) = %v", got)
		}
		for _, a := range samples() {
			if got := root.Gcd(a, zero); !slices.Equal(got, a) {
				t.Errorf("Gcd(%v, 0) = %v", a, got)
			}
			if got := root.Gcd(zero, a); !slices.Equal(got, a) {
				t.Errorf("Gcd(0, %v) = %v", a, got)
			}
		}
	}
}

func TestLowestWithZero(t *testing.T) {
	for _, zero := range [][]uint32{nil, {}} {
		if x, y, ok := root.Lowest(zero, zero); ok || len(x) > 0 || len(y) > 0 {
			t.Errorf("Lowest(0, 0) = %v, %v, %v", x, y, ok)
		}
		for _, a := range samples()[1:] {
			if x, y, ok := root.Lowest(a, zero); ok || len(x) > 0 || len(y) > 0 {
				t.Errorf("Lowest(%v, 0) = %v, %v, %v", a, x, y, ok)
			}
			if x, y, ok := root.Lowest(zero, a); !ok || len(x) > 0 || !slices.Equal(y, []uint32{1}) {
				t.Errorf("Lowest(0, %v) = %v, %v, %v", a, x, y, ok)
			}
		}
	}
}

func TestGcdExamples(t *testing.T) {
	for _, c := range []struct{ a, b, gcd, x, y []uint32 }{
		{[]uint32{48}, []uint32{36}, []uint32{12}, []uint32{4}, []uint32{3}}, {[]uint32{36}, []uint32{48}, []uint32{12}, []uint32{3}, []uint32{4}},
		{[]uint32{7}, []uint32{7}, []uint32{7}, []uint32{1}, []uint32{1}}, {[]uint32{7}, []uint32{1}, []uint32{1}, []uint32{7}, []uint32{1}},
		{[]uint32{0, 6}, []uint32{4}, []uint32{4}, []uint32{1 << 31, 1}, []uint32{1}}, {[]uint32{0, 1}, []uint32{3}, []uint32{1}, []uint32{0, 1}, []uint32{3}},
	} {
		if got := root.Gcd(c.a, c.b); !slices.Equal(got, c.gcd) {
			t.Errorf("Gcd(%v, %v) = %v", c.a, c.b, got)
		}
		if x, y, ok := root.Lowest(c.a, c.b); !ok || !slices.Equal(x, c.x) || !slices.Equal(y, c.y) {
			t.Errorf("Lowest(%v, %v) = %v, %v, %v", c.a, c.b, x, y, ok)
		}
	}
}

func TestLongGcd(t *testing.T) {
	random := rand.New(rand.NewPCG(4, 3))
	divisor := scattered(random, 100)
	checkGcd(t, product.Mul(divisor, scattered(random, 300)), product.Mul(divisor, scattered(random, 400)))
	longest := scattered(random, api.MaxBits/32)
	checkGcd(t, longest, product.Mul(longest, full(3)))
	checkGcd(t, longest, scattered(random, api.MaxBits/32))
}
