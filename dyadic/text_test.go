package dyadic_test

import (
	"math/big"
	"math/rand/v2"
	"regexp"
	"slices"
	"strconv"
	"strings"
	"testing"

	"exactreal/api"
	"exactreal/dyadic"
)

// P8.3

const maxText = api.MaxDigits + 10

func TestFormat(t *testing.T) {
	for _, d := range slices.Concat(samples(), few(), small()) {
		want := number(d.Man.Neg, d.Man.Mag).String() + "p" + strconv.Itoa(d.Exp)
		if got := dyadic.Format(d); got != want {
			t.Errorf("Format(%s) = %q", short(d), got)
		}
		if back, err := dyadic.Parse(want); err != api.OK || !same(back, d) {
			t.Errorf("Parse(Format(%s)) = %s, error %d", short(d), short(back), err)
		}
	}
}

func TestFormatOfExamples(t *testing.T) {
	for _, c := range []struct {
		d    api.Dyadic
		text string
	}{
		{dyadic.Of(-6), "-3p1"}, {dyadic.Of(0), "0p0"}, {dyadic.Of(1), "1p0"}, {dyadic.Of(-1), "-1p0"}, {dyadic.Of(12), "3p2"}, {dy(3, -1), "3p-1"}, {dy(-181, -7), "-181p-7"}, {dy(1, highest), "1p65536"}, {dy(1, lowest), "1p-65536"},
		{dy(4294967297, -10), "4294967297p-10"}, {dy(1, 100), "1p100"}, {dy(5, -12345), "5p-12345"},
	} {
		if got := dyadic.Format(c.d); got != c.text {
			t.Errorf("Format(%s) = %q", short(c.d), got)
		}
		if got, err := dyadic.Parse(c.text); err != api.OK || !same(got, c.d) {
			t.Errorf("Parse(%q) = %s, error %d", c.text, short(got), err)
		}
	}
}

// texts returns an expression for an integer as chapter 6 writes it, the letter p, and another one.
func texts() *regexp.Regexp {
	return regexp.MustCompile(`^(0|-?[1-9][0-9]*)p(0|-?[1-9][0-9]*)$`)
}

// expected returns the valid dyadic with the text and true, or a zero value and false if there is none.
func expected(text string, expression *regexp.Regexp) (api.Dyadic, bool) {
	match := expression.FindStringSubmatch(text)
	if match == nil {
		return api.Dyadic{}, false
	}
	man, _ := new(big.Int).SetString(match[1], 10)
	exp, err := strconv.Atoi(match[2])
	if err != nil || man.Bit(0) == 0 && (man.Sign() != 0 || exp != 0) {
		return api.Dyadic{}, false
	}
	return of(man, exp)
}

// checkAnyText checks Parse with a text that is that of a dyadic or of none.
func checkAnyText(t *testing.T, text string, expression *regexp.Regexp) {
	t.Helper()
	got, err := dyadic.Parse(text)
	shown := text[:min(len(text), 60)]
	if len(text) > maxText {
		checkRefused(t, "Parse", got, err, api.ErrLimit, shown, len(text))
		return
	}
	want, ok := expected(text, expression)
	if !ok {
		checkRefused(t, "Parse", got, err, api.ErrSyntax, shown, len(text))
		return
	}
	if err != api.OK || !same(got, want) {
		t.Errorf("Parse(%q) = %s, error %d, want %s", shown, short(got), err, short(want))
	}
	if back := dyadic.Format(got); back != text {
		t.Errorf("Format(Parse(%q)) is another text", shown)
	}
}

// checkShort checks all texts that begin with the given one and go on with up to n bytes of the alphabet.
func checkShort(t *testing.T, text, alphabet string, n int, expression *regexp.Regexp) {
	t.Helper()
	checkAnyText(t, text, expression)
	if n == 0 {
		return
	}
	for i := range len(alphabet) {
		checkShort(t, text+alphabet[i:i+1], alphabet, n-1, expression)
	}
}

func TestAllShortTexts(t *testing.T) {
	expression := texts()
	checkShort(t, "", "012p-", 7, expression)
	checkShort(t, "", "079p-+P.e \n\x80", 4, expression)
}

func TestRefusedTexts(t *testing.T) {
	expression := texts()
	for _, text := range []string{
		"", "p", "pp", "3", "-3", "0", "p1", "3p", "-p1", "3p-", "-p-", "p0", "0p", "3p1p1", "3pp1", "p3p1", "3p1p", "6p0", "-6p0", "2p-1", "10p0", "4294967296p0", "0p1", "0p-1", "0p65536", "-0p0", "0p-0", "-0p-0", "3p-0", "3p01", "3p00", "03p1", "00p0", "-03p1", "3p-01", "+3p1", "3p+1",
		"+0p0", "0p+0", "--3p1", "3p--1", "-+3p1", "3-p1", "3p1-", "3P1", "3e1", "3 p1", "3p 1", " 3p1", "3p1 ", "3p1\n", "\n3p1", "\x003p1", "3\x00p1", "3p1\x00", "3.0p1", "3p1.0", "0x3p1", "3p0x1", "3_1p0", "3p1_0", "1p65537", "1p-65537", "-3p65537", "3p-65537", "1p131072", "1p99999", "1p-99999",
		"1p4294967296", "1p-4294967296", "1p18446744073709551616", "1p18446744073709551615", "1p9223372036854775807", "1p9223372036854775808", "1p-9223372036854775808", "1p-9223372036854775809", "1p36893488147419103232", "1p-18446744073709551616",
		"\u0663p1", "3p\u0661", "\uff13p1", "\x80", "\x803p1", "3\x80p1", "3p\xff1", "3p1\xb2", "\xff", "\u20133p1", "3p\u22121", "infp0", "NaNp0",
	} {
		d, err := dyadic.Parse(text)
		checkRefused(t, "Parse", d, err, api.ErrSyntax, text)
		checkAnyText(t, text, expression)
	}
}

func TestExponents(t *testing.T) {
	expression := texts()
	for _, man := range []string{"1", "-1", "3", "0", "6", "-12345678901234567891"} {
		for exp := -70; exp <= 70; exp++ {
			checkAnyText(t, man+"p"+strconv.Itoa(exp), expression)
		}
		for _, exp := range []int{highest - 1, highest, highest + 1, 2 * highest, 2*highest + 1, 1 << 31, 1 << 32, 1 << 62} {
			checkAnyText(t, man+"p"+strconv.Itoa(exp), expression)
			checkAnyText(t, man+"p"+strconv.Itoa(-exp), expression)
		}
		for _, digits := range []int{10, 19, 20, 21, 40, 1000, api.MaxDigits} {
			checkAnyText(t, man+"p"+strings.Repeat("9", digits), expression)
			checkAnyText(t, man+"p-"+strings.Repeat("1", digits), expression)
			checkAnyText(t, man+"p"+strings.Repeat("0", digits)+"1", expression)
		}
	}
}

// Every byte, in front of, inside and behind both parts of a text, and in the place of the letter.
func TestEveryByte(t *testing.T) {
	expression := texts()
	for b := range 256 {
		other := string([]byte{byte(b)})
		for _, text := range []string{other, other + "3p1", "3" + other + "p1", "3p" + other + "1", "3p1" + other, "3" + other + "1", "1" + other + "3p1", "3p1" + other + "2", "-" + other + "3p-1", "3p-" + other + "1", "1234567890" + other + "123456789p-1000"} {
			checkAnyText(t, text, expression)
		}
	}
}

// Mantissas with many digits, most of them odd.
func TestParse(t *testing.T) {
	random := rand.New(rand.NewPCG(8, 2))
	expression := texts()
	for range 3000 {
		digits := make([]byte, 1+random.IntN(80))
		for i := range digits {
			digits[i] = "012345678911335577"[random.IntN(18)]
		}
		exp := "p" + strconv.Itoa(random.IntN(200001)-100000)
		checkAnyText(t, string(digits)+exp, expression)
		checkAnyText(t, "-"+string(digits)+exp, expression)
		digits[random.IntN(len(digits))] = 'p'
		checkAnyText(t, string(digits), expression)
	}
}

// The longest mantissas, and those that are too long for a dyadic but not for a text.
func TestParseOfLongMantissas(t *testing.T) {
	expression := texts()
	for _, man := range []*big.Int{ones(api.MaxBits), ends(api.MaxBits), ones(api.MaxBits + 1), ends(api.MaxBits + 1), ones(api.MaxBits + 300)} {
		for _, exp := range []string{"p0", "p-65536", "p65536", "p65537", "p"} {
			checkAnyText(t, man.String()+exp, expression)
			checkAnyText(t, "-"+man.String()+exp, expression)
			checkAnyText(t, "0"+man.String()+exp, expression)
		}
	}
	for _, n := range []int{19700, 19727, 19728, 19729, 19730, 19999, 20000, 20001, 20002, 20007} {
		for _, digit := range []string{"3", "9", "8"} {
			checkAnyText(t, strings.Repeat(digit, n)+"p0", expression)
			checkAnyText(t, strings.Repeat(digit, n)+"p-9", expression)
			checkAnyText(t, "-"+strings.Repeat(digit, n-1)+"p0", expression)
		}
	}
}

// Texts of MaxDigits + 10 bytes are those of no dyadic; longer ones are refused for their length, whatever they contain.
func TestTextsAtTheLimit(t *testing.T) {
	expression := texts()
	for _, n := range []int{maxText - 1, maxText, maxText + 1, maxText + 2, 2 * maxText, 1 << 20} {
		ending := []string{"p0", "p-65536", "p65536", "", "p", "x", "\x80"}
		for _, end := range ending {
			rest := n - len(end)
			for _, text := range []string{strings.Repeat("7", rest) + end, "-" + strings.Repeat("7", rest-1) + end, strings.Repeat("0", rest-1) + "1" + end, strings.Repeat("\xff", rest) + end, strings.Repeat("p", rest) + end} {
				if len(text) != n {
					t.Fatalf("a text of %d bytes instead of %d", len(text), n)
				}
				checkAnyText(t, text, expression)
			}
		}
		checkAnyText(t, "1p"+strings.Repeat("0", n-2), expression)
		checkAnyText(t, "1p"+strings.Repeat("1", n-2), expression)
		checkAnyText(t, "3p1"+strings.Repeat(" ", n-3), expression)
	}
}
