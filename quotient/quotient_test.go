package quotient_test

import (
	"math"
	"math/big"
	"math/rand/v2"
	"slices"
	"testing"

	"exactreal/api"
	"exactreal/nat"
	"exactreal/product"
	"exactreal/quotient"
)

const top = math.MaxUint32

// value returns the number that a list stands for.
func value(a []uint32) *big.Int {
	v := new(big.Int)
	for i := len(a) - 1; i >= 0; i-- {
		v.Lsh(v, 32).Or(v, big.NewInt(int64(a[i])))
	}
	return v
}

// stands reports whether a is the natural with the value v.
func stands(a []uint32, v *big.Int) bool {
	return nat.Valid(a) && value(a).Cmp(v) == 0
}

// edges are the elements that make estimated digits and carries of all kinds.
func edges() []uint32 {
	return []uint32{0, 1, 2, 1<<31 - 1, 1 << 31, 1<<31 + 1, top - 1, top}
}

// scattered returns a natural of n elements, about half of which are edges.
func scattered(random *rand.Rand, n int) []uint32 {
	a := make([]uint32, n)
	for i := range a {
		a[i] = random.Uint32()
		if random.IntN(2) == 0 {
			a[i] = edges()[random.IntN(len(edges()))]
		}
	}
	if n > 0 && a[n-1] == 0 {
		a[n-1] = 1
	}
	return a
}

// samples returns naturals of 0 to 10 elements, the same ones whenever it is called.
func samples() [][]uint32 {
	all := [][]uint32{nil, {1}, {2}, {3}, {10}, {1000000007}, {1<<31 - 1}, {1 << 31}, {top}, {0, 1}, {1, 1}, {0, 1 << 31}, {top, top}, {0, 0, 1}, {top, 0, top}, {0, top, top}, {top, top, top, top}}
	random := rand.New(rand.NewPCG(3, 1))
	for n := 1; n <= 10; n++ {
		all = append(all, scattered(random, n), scattered(random, n), scattered(random, n))
	}
	return all
}

// edgeLists returns the naturals of up to n elements that consist of edges.
func edgeLists(n int) [][]uint32 {
	all := [][]uint32{nil}
	longer := all
	for range n {
		shorter := longer
		longer = nil
		for _, list := range shorter {
			for _, word := range edges() {
				longer = append(longer, slices.Concat(list, []uint32{word}))
			}
		}
		all = append(all, longer...)
	}
	return slices.DeleteFunc(all, func(list []uint32) bool { return !nat.Valid(list) })
}

// P3.1

// checkDivMod checks a quotient and a remainder by what determines them, for b that is not zero.
func checkDivMod(t *testing.T, a, b []uint32) {
	t.Helper()
	q, r, ok := quotient.DivMod(a, b)
	wantQ, wantR := new(big.Int).QuoRem(value(a), value(b), new(big.Int))
	if !ok || !stands(q, wantQ) || !stands(r, wantR) {
		t.Errorf("DivMod(%v, %v) = %v, %v, %v, want the elements of %v, %v", a, b, q, r, ok, wantQ, wantR)
	}
}

func TestDivMod(t *testing.T) {
	for _, a := range samples() {
		for _, b := range samples() {
			if len(b) > 0 {
				checkDivMod(t, a, b)
			}
		}
	}
}

func TestDivModExamples(t *testing.T) {
	if q, r, ok := quotient.DivMod([]uint32{17}, []uint32{5}); !ok || !slices.Equal(q, []uint32{3}) || !slices.Equal(r, []uint32{2}) {
		t.Errorf("DivMod(17, 5) = %v, %v, %v", q, r, ok)
	}
	if q, r, ok := quotient.DivMod([]uint32{17}, nil); ok || len(q) > 0 || len(r) > 0 {
		t.Errorf("DivMod(17, 0) = %v, %v, %v", q, r, ok)
	}
}

func TestDivModByZero(t *testing.T) {
	for _, a := range samples() {
		for _, zero := range [][]uint32{nil, {}} {
			if q, r, ok := quotient.DivMod(a, zero); ok || len(q) > 0 || len(r) > 0 {
				t.Errorf("DivMod(%v, 0) = %v, %v, %v", a, q, r, ok)
			}
		}
	}
}

func TestDivModByMore(t *testing.T) {
	for _, a := range samples() {
		for _, more := range [][]uint32{nat.Add(a, []uint32{1}), nat.Shl(nat.Add(a, []uint32{1}), 1), slices.Concat(a, []uint32{1})} {
			if q, r, ok := quotient.DivMod(a, more); !ok || len(q) > 0 || !slices.Equal(r, a) {
				t.Errorf("DivMod(%v, %v) = %v, %v, %v", a, more, q, r, ok)
			}
		}
	}
}

// Dividends that are close to a multiple of the divisor, on either side.
func TestDivModCloseToMultiples(t *testing.T) {
	one := []uint32{1}
	for _, b := range samples()[1:] {
		for _, q := range samples() {
			multiple := product.Mul(q, b)
			checkDivMod(t, multiple, b)
			checkDivMod(t, nat.Add(multiple, one), b)
			checkDivMod(t, nat.Add(multiple, nat.Shr(b, 1)), b)
			if less, ok := nat.Sub(nat.Add(multiple, b), one); ok {
				checkDivMod(t, less, b)
			}
		}
	}
}

// The elements at both ends of the divisor are edges, so that estimates are as wrong as they can be.
func TestDivModByEdges(t *testing.T) {
	dividends := edgeLists(4)
	random := rand.New(rand.NewPCG(3, 2))
	for _, b := range edgeLists(3)[1:] {
		for range 40 {
			checkDivMod(t, dividends[random.IntN(len(dividends))], b)
		}
		long := slices.Concat(scattered(random, 3), b)
		checkDivMod(t, long, b)
		checkDivMod(t, product.Square(long), long)
		checkDivMod(t, slices.Repeat([]uint32{top}, len(long)+3), long)
	}
}

func TestLongDivision(t *testing.T) {
	random := rand.New(rand.NewPCG(3, 3))
	longest := append(scattered(random, api.MaxBits/32-1), top)
	for _, b := range [][]uint32{{1}, {10}, {top}, {0, 1}, {top, top, 1}, scattered(random, 1000), scattered(random, 2000), longest} {
		checkDivMod(t, longest, b)
		checkDivMod(t, product.Mul(longest, longest), b)
	}
}

func TestSmall(t *testing.T) {
	divisors := append(edges()[1:], 3, 10, 1<<16, 1000000000)
	for _, a := range append(samples(), edgeLists(3)...) {
		for _, d := range divisors {
			q, r, ok := quotient.Small(a, d)
			wantQ, wantR := new(big.Int).QuoRem(value(a), big.NewInt(int64(d)), new(big.Int))
			if !ok || !stands(q, wantQ) || int64(r) != wantR.Int64() {
				t.Errorf("Small(%v, %d) = %v, %d, %v, want the elements of %v, and %v", a, d, q, r, ok, wantQ, wantR)
			}
		}
		if q, r, ok := quotient.Small(a, 0); ok || len(q) > 0 || r != 0 {
			t.Errorf("Small(%v, 0) = %v, %d, %v", a, q, r, ok)
		}
	}
}

// P3.2

// checkExact checks Exact and Divides for one pair.
func checkExact(t *testing.T, a, b []uint32) {
	t.Helper()
	x, y := value(a), value(b)
	var want *big.Int
	if y.Sign() > 0 && new(big.Int).Rem(x, y).Sign() == 0 {
		want = new(big.Int).Quo(x, y)
	}
	q, ok := quotient.Exact(a, b)
	if ok != (want != nil) || ok && !stands(q, want) || !ok && len(q) > 0 {
		t.Errorf("Exact(%v, %v) = %v, %v, want %v", a, b, q, ok, want)
	}
	multiple := want != nil || x.Sign() == 0
	if got := quotient.Divides(b, a); got != multiple {
		t.Errorf("Divides(%v, %v) = %v", b, a, got)
	}
}

func TestExactAndDivides(t *testing.T) {
	for _, a := range samples() {
		for _, b := range samples() {
			checkExact(t, a, b)
			multiple := product.Mul(a, b)
			checkExact(t, multiple, b)
			checkExact(t, nat.Add(multiple, []uint32{1}), b)
			checkExact(t, nat.Add(multiple, nat.Shr(b, 1)), b)
		}
	}
}

func TestExactUndoesMul(t *testing.T) {
	for _, a := range samples() {
		for _, b := range samples()[1:] {
			if q, ok := quotient.Exact(product.Mul(a, b), b); !ok || !slices.Equal(q, a) {
				t.Errorf("Exact(Mul(%v, %v), %v) = %v, %v", a, b, b, q, ok)
			}
		}
	}
}

func TestExactByZero(t *testing.T) {
	for _, a := range [][]uint32{nil, {}, {1}, {5}, {0, 1}} {
		if q, ok := quotient.Exact(a, nil); ok || len(q) > 0 {
			t.Errorf("Exact(%v, 0) = %v, %v", a, q, ok)
		}
	}
}

func TestDividesExamples(t *testing.T) {
	for _, c := range []struct {
		b, a []uint32
		want bool
	}{
		{nil, nil, true}, {nil, []uint32{5}, false}, {nil, []uint32{0, 1}, false}, {[]uint32{5}, nil, true}, {[]uint32{0, 1}, nil, true},
		{[]uint32{1}, []uint32{7}, true}, {[]uint32{5}, []uint32{35}, true}, {[]uint32{5}, []uint32{36}, false}, {[]uint32{35}, []uint32{5}, false}, {[]uint32{0, 1}, []uint32{0, 0, 1}, true},
	} {
		if got := quotient.Divides(c.b, c.a); got != c.want {
			t.Errorf("Divides(%v, %v) = %v", c.b, c.a, got)
		}
	}
}

// checkPowmod checks a power modulo m, which is not zero.
func checkPowmod(t *testing.T, a, n, m []uint32) {
	t.Helper()
	want := new(big.Int).Exp(value(a), value(n), value(m))
	if got, ok := quotient.Powmod(a, n, m); !ok || !stands(got, want) {
		t.Errorf("Powmod(%v, %v, %v) = %v, %v, want the elements of %v", a, n, m, got, ok, want)
	}
}

func TestPowmod(t *testing.T) {
	all := samples()
	for i, a := range all {
		for j, m := range all[1:] {
			checkPowmod(t, a, all[(i+3*j)%len(all)], m)
			for n := range uint64(5) {
				checkPowmod(t, a, nat.Of(n), m)
			}
		}
	}
}

func TestPowmodExamples(t *testing.T) {
	one := []uint32{1}
	for _, c := range []struct{ a, n, m, want []uint32 }{
		{nil, nil, []uint32{7}, one}, {nil, []uint32{5}, []uint32{7}, nil}, {[]uint32{7}, nil, []uint32{7}, one}, {[]uint32{14}, []uint32{3}, []uint32{7}, nil},
		{nil, nil, one, nil}, {[]uint32{3}, nil, one, nil}, {[]uint32{3}, []uint32{4}, one, nil}, {[]uint32{0, 1}, []uint32{0, 1}, one, nil},
		{[]uint32{3}, []uint32{200}, []uint32{1000}, one}, {[]uint32{2}, []uint32{10}, []uint32{1000}, []uint32{24}}, {[]uint32{2}, []uint32{32}, []uint32{0, 0, 1}, []uint32{0, 1}},
	} {
		if got, ok := quotient.Powmod(c.a, c.n, c.m); !ok || !slices.Equal(got, c.want) {
			t.Errorf("Powmod(%v, %v, %v) = %v, %v, want %v", c.a, c.n, c.m, got, ok, c.want)
		}
	}
}

// By Fermat's theorem: 2^61 - 1 is prime.
func TestPowmodOfAPrime(t *testing.T) {
	prime, less := nat.Of(1<<61-1), nat.Of(1<<61-2)
	for _, a := range samples() {
		want := []uint32{1}
		if quotient.Divides(prime, a) {
			want = nil
		}
		if got, ok := quotient.Powmod(a, less, prime); !ok || !slices.Equal(got, want) {
			t.Errorf("Powmod(%v, 2^61 - 2, 2^61 - 1) = %v, %v", a, got, ok)
		}
	}
}

func TestPowmodOfZero(t *testing.T) {
	for _, a := range [][]uint32{nil, {1}, {3}, {0, 1}} {
		for _, n := range [][]uint32{nil, {1}, {2}, {0, 1}} {
			if got, ok := quotient.Powmod(a, n, []uint32{}); ok || len(got) > 0 {
				t.Errorf("Powmod(%v, %v, 0) = %v, %v", a, n, got, ok)
			}
		}
	}
}
