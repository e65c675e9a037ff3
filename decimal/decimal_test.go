package decimal_test

import (
	"encoding/binary"
	"math"
	"math/big"
	"math/rand/v2"
	"slices"
	"strconv"
	"strings"
	"testing"

	"exactreal/api"
	"exactreal/decimal"
)

const (
	top = math.MaxUint32

	maxBytes = api.MaxDigits + 1
)

// value returns the number that a list and a sign stand for, whether they are valid or not.
func value(neg bool, a []uint32) *big.Int {
	var digits []byte
	for _, word := range slices.Backward(a) {
		digits = binary.BigEndian.AppendUint32(digits, word)
	}
	v := new(big.Int).SetBytes(digits)
	if neg {
		v.Neg(v)
	}
	return v
}

// elements returns the natural of the absolute value of v, made without the package.
func elements(v *big.Int) []uint32 {
	var a []uint32
	digits := v.FillBytes(make([]byte, (v.BitLen()+31)/32*4))
	for i := len(digits); i > 0; i -= 4 {
		a = append(a, binary.BigEndian.Uint32(digits[i-4:]))
	}
	return a
}

// powerOfTen returns 10 to the power n.
func powerOfTen(n int) *big.Int {
	return new(big.Int).Exp(big.NewInt(10), big.NewInt(int64(n)), nil)
}

// near returns v and its neighbours, as far as they are not negative.
func near(v *big.Int) []*big.Int {
	var all []*big.Int
	for d := int64(-2); d <= 2; d++ {
		if w := new(big.Int).Add(v, big.NewInt(d)); w.Sign() >= 0 {
			all = append(all, w)
		}
	}
	return all
}

// lists returns naturals of 0 to 60 elements, the same ones whenever it is called.
func lists() [][]uint32 {
	all := [][]uint32{nil, {1}, {7}, {9}, {10}, {11}, {999_999_999}, {1_000_000_000}, {1_000_000_001}, {1 << 31}, {top}, {0, 1}, {1, 1}, {0, 1 << 31}, {top, top}, {0, 0, 1}, {1, 0, 1}, {top, 0, top}, {0, top, 0, 1}, {top, top, top, top}}
	random := rand.New(rand.NewPCG(6, 1))
	for n := 1; n <= 60; n++ {
		a := make([]uint32, n)
		for i := range a {
			a[i] = random.Uint32() >> random.IntN(32)
		}
		a[n-1] |= 1
		all = append(all, a)
	}
	return all
}

// isZero reports whether x has the zero value, where a nil slice is one as an empty one.
func isZero(x api.Int) bool {
	return !x.Neg && len(x.Mag) == 0
}

// P6.1

// checkText checks the four functions of P6.1 with a number that is not negative, and Format and Parse with the negative one.
func checkText(t *testing.T, v *big.Int) {
	t.Helper()
	a, digits := elements(v), v.String()
	if got := decimal.Digits(a); got != digits {
		t.Errorf("Digits(%v) = %q, want %q", a, got, digits)
	}
	if got, err := decimal.Natural(digits); err != api.OK || !slices.Equal(got, a) {
		t.Errorf("Natural(%q) = %v, %d, want %v", digits, got, err, a)
	}
	checkInteger(t, api.Int{Mag: a}, digits)
	if v.Sign() > 0 {
		checkInteger(t, api.Int{Neg: true, Mag: a}, "-"+digits)
	}
}

func checkInteger(t *testing.T, x api.Int, text string) {
	t.Helper()
	if got := decimal.Format(x); got != text {
		t.Errorf("Format(%v) = %q, want %q", x, got, text)
	}
	if got, err := decimal.Parse(text); err != api.OK || got.Neg != x.Neg || !slices.Equal(got.Mag, x.Mag) {
		t.Errorf("Parse(%q) = %v, %d, want %v", text, got, err, x)
	}
}

func TestTexts(t *testing.T) {
	for n := range int64(3000) {
		checkText(t, big.NewInt(n))
	}
	for _, a := range lists() {
		for _, v := range near(value(false, a)) {
			checkText(t, v)
		}
	}
}

func TestTextsOfPowers(t *testing.T) {
	for n := range 200 {
		for _, v := range near(powerOfTen(n)) {
			checkText(t, v)
		}
		for _, v := range near(new(big.Int).Lsh(big.NewInt(1), uint(n))) {
			checkText(t, v)
		}
	}
}

// Digits with zeros inside, above all where texts are cut into parts of equal length.
func TestTextsWithZerosInside(t *testing.T) {
	for above := range 40 {
		for below := range above {
			v := new(big.Int).Add(powerOfTen(above), powerOfTen(below))
			checkText(t, v)
			checkText(t, v.Mul(v, big.NewInt(7)))
			checkText(t, v.Sub(powerOfTen(above), powerOfTen(below)))
		}
	}
}

func TestTextsOfExamples(t *testing.T) {
	for _, c := range []struct {
		x    api.Int
		text string
	}{
		{api.Int{}, "0"}, {api.Int{Mag: []uint32{}}, "0"}, {api.Int{Mag: []uint32{1}}, "1"}, {api.Int{Neg: true, Mag: []uint32{1}}, "-1"},
		{api.Int{Neg: true, Mag: []uint32{12}}, "-12"}, {api.Int{Mag: []uint32{top}}, "4294967295"}, {api.Int{Neg: true, Mag: []uint32{0, 1}}, "-4294967296"},
		{api.Int{Mag: []uint32{0, 0, 1}}, "18446744073709551616"}, {api.Int{Mag: []uint32{1_000_000_000}}, "1000000000"}, {api.Int{Neg: true, Mag: []uint32{1_000_000_007}}, "-1000000007"},
	} {
		checkInteger(t, c.x, c.text)
	}
	for _, zero := range [][]uint32{nil, {}} {
		if got := decimal.Digits(zero); got != "0" {
			t.Errorf("Digits(0) = %q", got)
		}
	}
	if got, err := decimal.Natural("0"); err != api.OK || len(got) > 0 {
		t.Errorf("Natural(0) = %v, %d", got, err)
	}
}

// Numbers that are longer than any text that is parsed.
func TestDigitsOfLongNaturals(t *testing.T) {
	for _, n := range []int{maxBytes - 1, maxBytes, maxBytes + 1, 2 * maxBytes} {
		for _, v := range near(powerOfTen(n)) {
			digits := v.String()
			if got := decimal.Digits(elements(v)); got != digits {
				t.Errorf("Digits of %d digits are wrong", len(digits))
			}
			if got := decimal.Format(api.Int{Neg: true, Mag: elements(v)}); got != "-"+digits {
				t.Errorf("Format of %d digits is wrong", len(digits))
			}
		}
	}
}

// checkRefused checks that Natural returns the first error, and Parse the second one, and both nothing else.
func checkRefused(t *testing.T, text string, natural, parse api.Errno) {
	t.Helper()
	shown := text[:min(len(text), 40)]
	if a, err := decimal.Natural(text); err != natural || len(a) > 0 {
		t.Errorf("Natural(%q), %d bytes: %d elements, error %d, want error %d", shown, len(text), len(a), err, natural)
	}
	if x, err := decimal.Parse(text); err != parse || !isZero(x) {
		t.Errorf("Parse(%q), %d bytes: %d elements, error %d, want error %d", shown, len(text), len(x.Mag), err, parse)
	}
}

func TestRefusedTexts(t *testing.T) {
	for _, text := range []string{
		"", "-", "--", "+", "-0", "+0", "-00", "00", "000", "01", "007", "-01", "-007", "+1", "--1", "-+1", "+-1", "1-", "1-1", "0-", "0x10", "1e3", "1_000", "1,000",
		" ", " 1", "1 ", "- 1", "-1 ", "\t1", "1\n", "-1\n", "1\x00", "\x00", "1.", "1.0", ".5", "a", "1a", "a1", "1a1", "/", ":", "1/2", "1:2", "0000000000", "0123456789", "-0123456789",
		"\u0661", "1\u0662", "\uff11", "\u22121", "\x80", "1\x80", "\x801", "1\xff2", "\xb1", "1\xb2",
		"00000000000000000000000000000000000000001", "10000000000000000000000000000000000000000x", "1000000000000000000-0000000000000000000",
	} {
		checkRefused(t, text, api.ErrSyntax, api.ErrSyntax)
	}
}

// Natural takes no sign, which Parse does.
func TestNaturalRefusesSigns(t *testing.T) {
	for _, text := range []string{"-1", "-9", "-12", "-1234567890123456789"} {
		if a, err := decimal.Natural(text); err != api.ErrSyntax || len(a) > 0 {
			t.Errorf("Natural(%q) = %v, %d", text, a, err)
		}
		if _, err := decimal.Parse(text); err != api.OK {
			t.Errorf("Parse(%q): error %d", text, err)
		}
	}
}

// Every byte, alone, and in front of, inside and behind digits.
func TestEveryByte(t *testing.T) {
	for b := range 256 {
		if '0' <= b && b <= '9' {
			continue
		}
		other := string([]byte{byte(b)})
		for _, text := range []string{other, "1" + other, "-1" + other, "12" + other + "34", "1234567890" + other + "1234567890", "-" + other, "-" + other + "1"} {
			checkRefused(t, text, api.ErrSyntax, api.ErrSyntax)
		}
		if b != '-' {
			checkRefused(t, other+"1", api.ErrSyntax, api.ErrSyntax)
		}
	}
}

// checkShort checks all texts that begin with the given one and go on with up to n bytes of the alphabet: Parse and Natural take those that are the text of a number.
func checkShort(t *testing.T, text, alphabet string, n int) {
	t.Helper()
	number, err := strconv.Atoi(text)
	natural, parse := api.ErrSyntax, api.ErrSyntax
	if err == nil && strconv.Itoa(number) == text {
		parse = api.OK
		if number >= 0 {
			natural = api.OK
		}
	}
	if a, err := decimal.Natural(text); err != natural || err != api.OK && len(a) > 0 || err == api.OK && decimal.Digits(a) != text {
		t.Errorf("Natural(%q) = %v, %d", text, a, err)
	}
	if x, err := decimal.Parse(text); err != parse || err != api.OK && !isZero(x) || err == api.OK && decimal.Format(x) != text {
		t.Errorf("Parse(%q) = %v, %d", text, x, err)
	}
	if n == 0 {
		return
	}
	for i := range len(alphabet) {
		checkShort(t, text+alphabet[i:i+1], alphabet, n-1)
	}
}

func TestAllShortTexts(t *testing.T) {
	checkShort(t, "", "-+019 a\x80", 5)
}

// Texts at the limit, one byte below it and one byte above it.
func TestLongTexts(t *testing.T) {
	for _, digit := range []string{"9", "1"} {
		for _, n := range []int{maxBytes - 2, maxBytes - 1, maxBytes} {
			text := strings.Repeat(digit, n)
			a, err := decimal.Natural(text)
			if err != api.OK || value(false, a).String() != text {
				t.Errorf("Natural of %d digits: error %d", n, err)
			}
			x, err := decimal.Parse(text)
			if err != api.OK || value(x.Neg, x.Mag).String() != text || decimal.Format(x) != text {
				t.Errorf("Parse of %d digits: error %d", n, err)
			}
		}
		for _, n := range []int{maxBytes - 2, maxBytes - 1} {
			text := "-" + strings.Repeat(digit, n)
			x, err := decimal.Parse(text)
			if err != api.OK || value(x.Neg, x.Mag).String() != text || decimal.Format(x) != text {
				t.Errorf("Parse of a sign and %d digits: error %d", n, err)
			}
			if a, err := decimal.Natural(text); err != api.ErrSyntax || len(a) > 0 {
				t.Errorf("Natural of a sign and %d digits: error %d", n, err)
			}
		}
	}
}

func TestTooLongTexts(t *testing.T) {
	for _, n := range []int{maxBytes + 1, maxBytes + 2, 2 * maxBytes, 1 << 20} {
		for _, text := range []string{strings.Repeat("9", n), "-" + strings.Repeat("9", n-1), "1" + strings.Repeat("0", n-1), strings.Repeat("0", n), strings.Repeat("-", n), strings.Repeat("\xff", n)} {
			checkRefused(t, text, api.ErrLimit, api.ErrLimit)
		}
	}
}

// With another byte among the digits, a text is refused for its length first.
func TestOrderOfErrors(t *testing.T) {
	for n, want := range map[int]api.Errno{maxBytes - 1: api.ErrSyntax, maxBytes: api.ErrSyntax, maxBytes + 1: api.ErrLimit} {
		digits := strings.Repeat("7", n-1)
		for _, other := range []string{"x", " ", "+", ".", "\x00", "\x80", "\xff"} {
			checkRefused(t, other+digits, want, want)
			checkRefused(t, digits[:n/2]+other+digits[n/2:], want, want)
			checkRefused(t, digits+other, want, want)
			checkRefused(t, "-"+digits[:n/2]+other+digits[n/2+1:], want, want)
			checkRefused(t, "-"+digits[1:]+other, want, want)
		}
		checkRefused(t, "0"+digits, want, want)
		checkRefused(t, "-0"+digits[1:], want, want)
		checkRefused(t, "--"+digits[1:], want, want)
		checkRefused(t, digits+"-", want, want)
		checkRefused(t, strings.Repeat("0", n), want, want)
	}
}

// P6.2

func TestHex(t *testing.T) {
	random := rand.New(rand.NewPCG(6, 2))
	numbers := []uint64{0, 1, 9, 10, 15, 16, 255, 1 << 63, math.MaxInt64, math.MaxUint64 - 1, math.MaxUint64, 0x0123456789abcdef, 0xfedcba9876543210}
	for i := range 64 {
		numbers = append(numbers, 1<<i, 1<<i-1, 1<<i+1, random.Uint64(), random.Uint64()>>i)
	}
	for _, h := range numbers {
		plain := strconv.FormatUint(h, 16)
		want := strings.Repeat("0", 16-len(plain)) + plain
		if got := decimal.Hex(h); got != want {
			t.Errorf("Hex(%d) = %q, want %q", h, got, want)
		}
		if got, err := decimal.Unhex(want); err != api.OK || got != h {
			t.Errorf("Unhex(%q) = %d, %d, want %d", want, got, err, h)
		}
	}
}

func TestHexOfExamples(t *testing.T) {
	for _, c := range []struct {
		h    uint64
		text string
	}{
		{0, "0000000000000000"}, {255, "00000000000000ff"}, {0x0123456789abcdef, "0123456789abcdef"}, {1 << 63, "8000000000000000"}, {math.MaxUint64, "ffffffffffffffff"},
	} {
		if got := decimal.Hex(c.h); got != c.text {
			t.Errorf("Hex(%d) = %q", c.h, got)
		}
		if got, err := decimal.Unhex(c.text); err != api.OK || got != c.h {
			t.Errorf("Unhex(%q) = %d, %d", c.text, got, err)
		}
	}
}

func checkUnhexRefuses(t *testing.T, text string) {
	t.Helper()
	if h, err := decimal.Unhex(text); err != api.ErrSyntax || h != 0 {
		t.Errorf("Unhex(%q) = %d, %d", text[:min(len(text), 40)], h, err)
	}
}

func TestUnhexOfOtherLengths(t *testing.T) {
	for _, digit := range []string{"0", "1", "a", "f"} {
		for n := range 70 {
			if n != 16 {
				checkUnhexRefuses(t, strings.Repeat(digit, n))
			}
		}
		checkUnhexRefuses(t, strings.Repeat(digit, 1<<20))
	}
	for _, text := range []string{"", "ff", "0x00000000000000ff", "00000000000000ff ", " 00000000000000ff", "00000000000000ff\n", "+00000000000000ff", "-00000000000000ff"} {
		checkUnhexRefuses(t, text)
	}
}

// Every byte at every place.
func TestUnhexOfEveryByte(t *testing.T) {
	for b := range 256 {
		want := strings.IndexByte("0123456789abcdef", byte(b))
		for i := range 16 {
			text := []byte("1111111111111111")
			text[i] = byte(b)
			if want < 0 {
				checkUnhexRefuses(t, string(text))
				continue
			}
			places := 4 * (15 - i)
			number := uint64(0x1111111111111111) - 1<<places + uint64(want)<<places
			if h, err := decimal.Unhex(string(text)); err != api.OK || h != number {
				t.Errorf("Unhex(%q) = %d, %d, want %d", text, h, err, number)
			}
		}
	}
}

func TestUnhexOfOtherTexts(t *testing.T) {
	for _, text := range []string{
		"00000000000000FF", "ABCDEFABCDEFABCD", "FFFFFFFFFFFFFFFF", "0123456789ABCDEF", "0123456789abcdeF", "00000000000000fg", "gggggggggggggggg", "0x000000000000ff", "0X000000000000FF",
		"+0000000000000ff", "-000000000000001", "0_000000000000ff", "0000 0000 0000 1", "              ff", "ff              ", "\u0661\u0661\u0661\u0661\u0661\u0661\u0661\u0661", strings.Repeat("\x00", 16), strings.Repeat("\xff", 16),
	} {
		if len(text) != 16 {
			t.Fatalf("%q has %d bytes", text, len(text))
		}
		checkUnhexRefuses(t, text)
	}
}
