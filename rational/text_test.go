package rational_test

import (
	"math/big"
	"math/rand/v2"
	"regexp"
	"slices"
	"strings"
	"testing"

	"exactreal/api"
	"exactreal/rational"
)

// P7.3

func checkFloor(t *testing.T, v *big.Rat) {
	t.Helper()
	// The denominator is positive, so that the quotient of Euclid is rounded down.
	want := new(big.Int).Div(v.Num(), v.Denom())
	if got := rational.Floor(of(v)); !validInt(got) || number(got.Neg, got.Mag).Cmp(want) != 0 {
		t.Errorf("Floor(%v) = %v, want %v", v, got, want)
	}
}

// Whole numbers and their neighbours on both sides are among them.
func TestFloor(t *testing.T) {
	for _, x := range samples() {
		v := value(x)
		checkFloor(t, v)
		whole := new(big.Rat).SetInt(v.Num())
		checkFloor(t, whole)
		tiny := new(big.Rat).SetFrac(big.NewInt(1), new(big.Int).Add(v.Denom(), big.NewInt(1)))
		checkFloor(t, new(big.Rat).Add(whole, tiny))
		checkFloor(t, new(big.Rat).Sub(whole, tiny))
	}
	for num := int64(-50); num <= 50; num++ {
		for den := int64(1); den <= 12; den++ {
			checkFloor(t, big.NewRat(num, den))
		}
	}
}

func TestFloorOfExamples(t *testing.T) {
	for _, c := range []struct {
		x    api.Rat
		want int64
	}{
		{frac(-1, 2), -1}, {frac(1, 2), 0}, {frac(7, 2), 3}, {frac(-7, 2), -4}, {frac(-4, 1), -4}, {frac(4, 1), 4}, {frac(0, 1), 0}, {frac(-1, top), -1}, {frac(top, top-1), 1},
	} {
		if got := rational.Floor(c.x); number(got.Neg, got.Mag).Cmp(big.NewInt(c.want)) != 0 || !validInt(got) {
			t.Errorf("Floor(%v) = %v", c.x, got)
		}
	}
}

func TestSize(t *testing.T) {
	for _, x := range samples() {
		v := value(x)
		if got, want := rational.Size(x), max(v.Num().BitLen(), v.Denom().BitLen()); got != want {
			t.Errorf("Size(%v) = %d, want %d", x, got, want)
		}
	}
	for _, c := range []struct {
		x    api.Rat
		want int
	}{
		{frac(0, 1), 1}, {frac(1, 1), 1}, {frac(-1, 1), 1}, {frac(3, 8), 4}, {frac(8, 3), 4}, {frac(-8, 3), 4}, {frac(-7, 5), 3}, {frac(1<<40, 3), 41}, {frac(-3, 1<<40), 41}, {frac(1<<32, top), 33}, {frac(top, 1<<32), 33},
	} {
		if got := rational.Size(c.x); got != c.want {
			t.Errorf("Size(%v) = %d", c.x, got)
		}
	}
}

// checkText checks Decimal, and Parse of what it returns, as far as it is not too long.
func checkText(t *testing.T, v *big.Rat) {
	t.Helper()
	want, ok := "", false
	places, whole := v.FloatPrec()
	if whole && v.Sign() >= 0 {
		want, ok = v.FloatString(places), true
	}
	x := of(v)
	got, isDecimal := rational.Decimal(x)
	if got != want || isDecimal != ok {
		t.Errorf("Decimal(%v) = %q, %v, want %q", v, got, isDecimal, want)
	}
	switch {
	case !ok:
	case len(want) <= api.MaxText:
		checkParse(t, want, x)
	default:
		y, err := rational.Parse(want)
		checkRefused(t, "Parse", y, err, api.ErrLimit, want)
	}
}

func checkParse(t *testing.T, text string, want api.Rat) {
	t.Helper()
	x, err := rational.Parse(text)
	if err != api.OK || !stands(x, value(want)) {
		t.Errorf("Parse(%q) = %v, error %d, want %v", text, x, err, want)
	}
}

func TestTexts(t *testing.T) {
	for _, x := range samples() {
		checkText(t, value(x))
	}
	for num := int64(-3); num <= 130; num++ {
		for den := int64(1); den <= 130; den++ {
			checkText(t, big.NewRat(num, den))
		}
	}
}

// raised returns base to the power n.
func raised(base int64, n int) *big.Int {
	return new(big.Int).Exp(big.NewInt(base), big.NewInt(int64(n)), nil)
}

// Denominators with the prime factors 2 and 5 in all proportions, alone and with another one.
func TestTextsByPrimeFactors(t *testing.T) {
	for twos := range 24 {
		for fives := range 24 {
			den := new(big.Int).Mul(raised(2, twos), raised(5, fives))
			for _, num := range []int64{0, 1, 2, 3, 5, 7, 10, 123456789, top, -1, -7} {
				v := new(big.Rat).SetFrac(big.NewInt(num), den)
				checkText(t, v)
				checkText(t, v.Add(v, big.NewRat(12345, 1)))
			}
			for _, other := range []int64{3, 7, 11, 13, 9, 21, 1_000_000_007, 1<<61 - 1} {
				checkText(t, new(big.Rat).SetFrac(big.NewInt(1), new(big.Int).Mul(den, big.NewInt(other))))
			}
		}
	}
}

// Decimals of about MaxText bytes and more.
func TestLongTexts(t *testing.T) {
	for _, n := range []int{64, 65, 100, api.MaxText - 3, api.MaxText - 2, api.MaxText - 1, api.MaxText, 1000, 5000} {
		for _, den := range []*big.Int{raised(2, n), raised(5, n), raised(10, n), new(big.Int).Mul(raised(2, n), raised(5, n/2))} {
			checkText(t, new(big.Rat).SetFrac(big.NewInt(1), den))
			checkText(t, new(big.Rat).SetFrac(raised(7, n), den))
			checkText(t, new(big.Rat).SetFrac(big.NewInt(1), new(big.Int).Mul(den, big.NewInt(3))))
		}
		checkText(t, new(big.Rat).SetInt(raised(10, n)))
	}
}

func TestDecimalOfExamples(t *testing.T) {
	for _, c := range []struct {
		x    api.Rat
		text string
	}{
		{frac(25, 2), "12.5"}, {frac(0, 1), "0"}, {frac(1, 1), "1"}, {frac(10, 1), "10"}, {frac(100, 1), "100"}, {frac(1, 2), "0.5"}, {frac(1, 5), "0.2"}, {frac(1, 10), "0.1"}, {frac(1, 20), "0.05"},
		{frac(1, 8), "0.125"}, {frac(1, 1000), "0.001"}, {frac(3333, 10000), "0.3333"}, {frac(7, 4), "1.75"}, {frac(1001, 1000), "1.001"}, {frac(201, 2), "100.5"}, {frac(1<<20+1, 1024), "1024.0009765625"}, {frac(1<<32, 1), "4294967296"},
	} {
		if got, ok := rational.Decimal(c.x); got != c.text || !ok {
			t.Errorf("Decimal(%v) = %q, %v, want %q", c.x, got, ok, c.text)
		}
		checkParse(t, c.text, c.x)
	}
	for _, x := range []api.Rat{frac(1, 3), frac(2, 3), frac(1, 6), frac(1, 15), frac(1, 30), frac(1, 7), frac(-1, 1), frac(-1, 2), frac(-25, 2), frac(-1, 3), frac(1, top)} {
		if got, ok := rational.Decimal(x); got != "" || ok {
			t.Errorf("Decimal(%v) = %q, %v", x, got, ok)
		}
	}
}

// decimals returns an expression for the decimals of chapter 7.
func decimals() *regexp.Regexp {
	return regexp.MustCompile(`^(0|[1-9][0-9]*)(\.[0-9]*[1-9])?$`)
}

// checkAnyText checks Parse with a text that is a decimal or none.
func checkAnyText(t *testing.T, text string, expression *regexp.Regexp) {
	t.Helper()
	if !expression.MatchString(text) {
		x, err := rational.Parse(text)
		checkRefused(t, "Parse", x, err, api.ErrSyntax, text)
		return
	}
	v, ok := new(big.Rat).SetString(text)
	if !ok {
		t.Fatalf("%q is no number", text)
	}
	x := of(v)
	checkParse(t, text, x)
	if got, ok := rational.Decimal(x); got != text || !ok {
		t.Errorf("Decimal(Parse(%q)) = %q, %v", text, got, ok)
	}
}

// checkShort checks all texts that begin with the given one and go on with up to n bytes of the alphabet.
func checkShort(t *testing.T, text, alphabet string, n int, expression *regexp.Regexp) {
	t.Helper()
	checkAnyText(t, text, expression)
	if n == 0 {
		return
	}
	for i := range len(alphabet) {
		checkShort(t, text+alphabet[i:i+1], alphabet, n-1, expression)
	}
}

func TestAllShortTexts(t *testing.T) {
	expression := decimals()
	checkShort(t, "", "015.", 8, expression)
	checkShort(t, "", "059.-+e \n\x80", 5, expression)
}

func TestRefusedTexts(t *testing.T) {
	for _, text := range []string{
		"", ".", "..", ".5", "5.", ".0", "0.", "0.0", "0.50", "0.00", "1.0", "1.500", "100.0", "00", "01", "007", "00.5", "01.5", "-1", "-0", "-0.5", "+1", "+0.5", "0.-5", "0.+5", "1.-5", "1.2.3", "1..2", "1.2.", ".1.2",
		"1e5", "1E5", "0x10", "1_000", "1,5", "1/2", "1:2", " ", " 1", "1 ", "1 .5", "1. 5", "0. 5", "1.5 ", "\t1", "1\n", "1.5\n", "\x001", "1\x00", "1.\x005", "a", "a.5", "1.a", "1.a5", "1.5a", "0.0a5",
		"\u0661", "1.\u0665", "\uff11", "1\u00b75", "\x80", "1\x80", "\xff1", "1.\xff5", "1.5\xb2", "inf", "NaN",
	} {
		x, err := rational.Parse(text)
		checkRefused(t, "Parse", x, err, api.ErrSyntax, text)
	}
}

// Every byte, in front of, inside and behind the digits on both sides of a point.
func TestEveryByte(t *testing.T) {
	expression := decimals()
	for b := range 256 {
		other := string([]byte{byte(b)})
		for _, text := range []string{other, other + "1", "1" + other, "12" + other + "34", other + "1.5", "1" + other + ".5", "1." + other + "5", "0." + other + "5", "1.2" + other + "5", "1.5" + other, "0.00" + other + "5", "1234567890" + other + "123456789.5"} {
			checkAnyText(t, text, expression)
		}
	}
}

// Decimals with many digits on both sides of the point.
func TestParse(t *testing.T) {
	random := rand.New(rand.NewPCG(7, 2))
	expression := decimals()
	for range 2000 {
		digits := make([]byte, 1+random.IntN(60))
		for i := range digits {
			digits[i] = "0123456789000"[random.IntN(13)]
		}
		checkAnyText(t, string(digits), expression)
		digits[random.IntN(len(digits))] = '.'
		checkAnyText(t, string(digits), expression)
	}
}

// Texts of MaxText bytes and of fewer are decimals; longer ones are refused for their length, whatever else they contain.
func TestTextsAtTheLimit(t *testing.T) {
	expression := decimals()
	for _, n := range []int{api.MaxText - 1, api.MaxText, api.MaxText + 1, api.MaxText + 2, 2 * api.MaxText, 1 << 20} {
		digits := strings.Repeat("7", n-1)
		texts := []string{"7" + digits, "0." + digits[1:], digits[:n/2] + "." + digits[n/2:], digits[1:] + ".5", "0." + strings.Repeat("0", n-3) + "1", "1" + strings.Repeat("0", n-1)}
		for _, other := range []string{".", "0", "x", " ", "-", "+", "\x00", "\x80", "\xff"} {
			texts = append(texts, other+digits, digits+other, "0."+digits[2:]+other, "0."+other+digits[2:], digits[:n/2]+other+digits[n/2:])
		}
		texts = append(texts, strings.Repeat("0", n), strings.Repeat(".", n), strings.Repeat("\xff", n))
		for _, text := range texts {
			if len(text) != n {
				t.Fatalf("a text of %d bytes instead of %d", len(text), n)
			}
			if n <= api.MaxText {
				checkAnyText(t, text, expression)
				continue
			}
			x, err := rational.Parse(text)
			checkRefused(t, "Parse", x, err, api.ErrLimit, n, text[:10])
		}
	}
}

func TestParseOfZeroAndOne(t *testing.T) {
	zero, err := rational.Parse("0")
	if err != api.OK || zero.Num.Neg || len(zero.Num.Mag) > 0 || !slices.Equal(zero.Den, []uint32{1}) {
		t.Errorf("Parse(0) = %v, error %d", zero, err)
	}
	one, err := rational.Parse("1")
	if err != api.OK || one.Num.Neg || !slices.Equal(one.Num.Mag, []uint32{1}) || !slices.Equal(one.Den, []uint32{1}) {
		t.Errorf("Parse(1) = %v, error %d", one, err)
	}
}
