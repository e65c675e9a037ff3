package lexer_test

import (
	"fmt"
	"math/rand/v2"
	"regexp"
	"slices"
	"strconv"
	"strings"
	"testing"

	"exactreal/api"
	"exactreal/lexer"
)

// P18.2

func sign(at int, text string) api.Token { return api.Token{Kind: api.TokSign, At: at, Text: text} }

func name(at int, text string) api.Token { return api.Token{Kind: api.TokName, At: at, Text: text} }

func number(at int, text string) api.Token { return api.Token{Kind: api.TokNumber, At: at, Text: text} }

// outcome is what a call of Scan has returned, or should return.
type outcome struct {
	tokens []api.Token
	at     int
	err    api.Errno
}

// String shows a result with quoted texts, since they may be any bytes.
func (o outcome) String() string {
	return fmt.Sprintf("%+q, %d, error %d", shown(o.tokens), o.at, o.err)
}

// shown returns a text for each token: its kind, its offset and its text.
func shown(tokens []api.Token) []string {
	var all []string
	for _, token := range tokens {
		all = append(all, fmt.Sprintf("%d at %d: %s", token.Kind, token.At, token.Text))
	}
	return all
}

func scan(s string) outcome {
	tokens, at, err := lexer.Scan(s)
	return outcome{tokens, at, err}
}

func equal(x, y outcome) bool {
	return slices.Equal(x.tokens, y.tokens) && x.at == y.at && x.err == y.err
}

// grammar divides texts by regular expressions.
type grammar struct {
	word, number, sign, decimal *regexp.Regexp
}

func definitions() grammar {
	return grammar{
		word:    regexp.MustCompile(`^[A-Za-z][A-Za-z0-9_]*`),
		number:  regexp.MustCompile(`^[0-9][0-9.]*`),
		sign:    regexp.MustCompile(`^[-+*/^()]`),
		decimal: regexp.MustCompile(`^(0|[1-9][0-9]*)(\.[0-9]*[1-9])?$`),
	}
}

// token returns the token that s begins with, without its offset, and whether there is one that is permitted.
func (g grammar) token(s string) (api.Token, bool) {
	if text := g.word.FindString(s); text != "" {
		return api.Token{Kind: api.TokName, Text: text}, len(text) <= api.MaxName
	}
	if text := g.number.FindString(s); text != "" {
		return api.Token{Kind: api.TokNumber, Text: text}, g.decimal.MatchString(text)
	}
	text := g.sign.FindString(s)
	return api.Token{Kind: api.TokSign, Text: text}, text != ""
}

// scan returns what Scan should return.
func (g grammar) scan(s string) outcome {
	if len(s) > api.MaxText {
		return outcome{err: api.ErrLimit}
	}
	var tokens []api.Token
	for at := 0; at < len(s); {
		if s[at] == ' ' {
			at++
			continue
		}
		token, ok := g.token(s[at:])
		if !ok {
			return outcome{at: at, err: api.ErrSyntax}
		}
		token.At = at
		tokens = append(tokens, token)
		at += len(token.Text)
	}
	return outcome{tokens: tokens, at: len(s)}
}

func checkOutcome(t *testing.T, s string, want outcome) {
	t.Helper()
	if got := scan(s); !equal(got, want) {
		t.Errorf("Scan(%+q), %d bytes: %v, want %v", beginningOf(s), len(s), got, want)
	}
}

// checkTokens checks a text that is divided into the given tokens.
func checkTokens(t *testing.T, s string, tokens ...api.Token) {
	t.Helper()
	checkOutcome(t, s, outcome{tokens: tokens, at: len(s)})
	checkOutcome(t, s, definitions().scan(s))
	checkJoined(t, definitions(), s)
}

// checkFault checks a text that has its first fault at the given offset.
func checkFault(t *testing.T, s string, at int) {
	t.Helper()
	checkOutcome(t, s, outcome{at: at, err: api.ErrSyntax})
	checkOutcome(t, s, definitions().scan(s))
}

func TestScanOfExamples(t *testing.T) {
	checkTokens(t, "x1 +2.5", name(0, "x1"), sign(3, "+"), number(4, "2.5"))
	checkTokens(t, "x1+2.5*sqrt(y_Z)^-3", name(0, "x1"), sign(2, "+"), number(3, "2.5"), sign(6, "*"), name(7, "sqrt"), sign(11, "("), name(12, "y_Z"), sign(15, ")"), sign(16, "^"), sign(17, "-"), number(18, "3"))
	checkTokens(t, "pi / e - atan (ln)", name(0, "pi"), sign(3, "/"), name(5, "e"), sign(7, "-"), name(9, "atan"), sign(14, "("), name(15, "ln"), sign(17, ")"))
	checkFault(t, "2..5", 0)
	checkFault(t, "a$", 1)
	checkFault(t, "01", 0)
}

func TestScanOfSpaces(t *testing.T) {
	checkTokens(t, "")
	for n := range api.MaxText + 1 {
		spaces := strings.Repeat(" ", n)
		checkTokens(t, spaces)
		if n+2 <= api.MaxText {
			checkTokens(t, spaces+"ab", name(n, "ab"))
			checkTokens(t, "7"+spaces+"+", number(0, "7"), sign(n+1, "+"))
			checkTokens(t, ")x"+spaces, sign(0, ")"), name(1, "x"))
			checkFault(t, spaces+"_a", n)
		}
	}
	checkTokens(t, "  a   12  ( ", name(2, "a"), number(6, "12"), sign(10, "("))
	for _, other := range []string{"\t", "\n", "\r", "\v", "\f", "\x00", "\u00a0", "\u2003", "\u3000", "\xa0"} {
		checkFault(t, other, 0)
		checkFault(t, "a"+other+"b", 1)
		checkFault(t, "  1  "+other+" 2", 5)
	}
}

// Every byte alone, behind a token of each kind, and between two of them.
func TestScanOfEveryByte(t *testing.T) {
	for b := range 256 {
		other := string([]byte{byte(b)})
		switch {
		case strings.Contains(letters, other):
			checkTokens(t, other, name(0, other))
			checkTokens(t, "+"+other, sign(0, "+"), name(1, other))
			checkTokens(t, "a"+other, name(0, "a"+other))
			checkTokens(t, "12"+other+"3", number(0, "12"), name(2, other+"3"))
		case strings.Contains(digits, other):
			checkTokens(t, other, number(0, other))
			checkTokens(t, "+"+other, sign(0, "+"), number(1, other))
			checkTokens(t, "a"+other, name(0, "a"+other))
			checkTokens(t, "12"+other+"3", number(0, "12"+other+"3"))
		case strings.Contains(signs, other):
			checkTokens(t, other, sign(0, other))
			checkTokens(t, "+"+other, sign(0, "+"), sign(1, other))
			checkTokens(t, "a"+other, name(0, "a"), sign(1, other))
			checkTokens(t, "12"+other+"3", number(0, "12"), sign(2, other), number(3, "3"))
		case other == " ":
			checkTokens(t, "a ", name(0, "a"))
			checkTokens(t, "12 3", number(0, "12"), number(3, "3"))
		case other == "_":
			checkFault(t, other, 0)
			checkTokens(t, "a_", name(0, "a_"))
			checkFault(t, "12_3", 2)
		case other == ".":
			checkFault(t, other, 0)
			checkFault(t, "a.", 1)
			checkTokens(t, "12.3", number(0, "12.3"))
		default:
			checkFault(t, other, 0)
			checkFault(t, "+"+other, 1)
			checkFault(t, "a"+other, 1)
			checkFault(t, "12"+other+"3", 2)
			checkFault(t, "x1 +2.5"+other, 7)
			checkFault(t, "x1 +"+other+"2.5", 4)
			checkFault(t, "x1 + "+other, 5)
		}
	}
}

func TestScanOfEveryTwoBytes(t *testing.T) {
	g := definitions()
	for a := range 256 {
		for b := range 256 {
			s := string([]byte{byte(a), byte(b)})
			checkOutcome(t, s, g.scan(s))
			checkOutcome(t, "x"+s+"1", g.scan("x"+s+"1"))
		}
	}
}

func TestScanOfSigns(t *testing.T) {
	for i := range len(signs) {
		text := signs[i : i+1]
		checkTokens(t, text, sign(0, text))
		checkTokens(t, " "+text+" ", sign(1, text))
		checkTokens(t, text+text+text, sign(0, text), sign(1, text), sign(2, text))
		checkTokens(t, "a"+text+"b", name(0, "a"), sign(1, text), name(2, "b"))
		checkTokens(t, "1"+text+"0.5", number(0, "1"), sign(1, text), number(2, "0.5"))
	}
	checkTokens(t, signs, sign(0, "+"), sign(1, "-"), sign(2, "*"), sign(3, "/"), sign(4, "^"), sign(5, "("), sign(6, ")"))
	checkTokens(t, "--x", sign(0, "-"), sign(1, "-"), name(2, "x"))
	checkTokens(t, "**//", sign(0, "*"), sign(1, "*"), sign(2, "/"), sign(3, "/"))
	checkTokens(t, ")(^-", sign(0, ")"), sign(1, "("), sign(2, "^"), sign(3, "-"))
}

func TestScanOfNumbers(t *testing.T) {
	for _, text := range []string{"0", "1", "9", "10", "100", "0.5", "0.05", "0.1", "10.01", "12.5", "1234567890", "1234567890.0987654321", "0.000000000000000000000000000000001", "4294967296", "18446744073709551616.5", "1." + strings.Repeat("0", 300) + "1", strings.Repeat("9", 380)} {
		checkTokens(t, text, number(0, text))
		checkTokens(t, "-"+text+" ", sign(0, "-"), number(1, text))
		checkTokens(t, "x "+text+"+y", name(0, "x"), number(2, text), sign(2+len(text), "+"), name(3+len(text), "y"))
		checkTokens(t, text+"x", number(0, text), name(len(text), "x"))
	}
	for _, text := range []string{"00", "01", "007", "00.5", "01.5", "0.0", "0.50", "1.0", "1.500", "100.0", "0.", "1.", "12.", "1..", "2..5", "1.2.3", "1.2.", "1..2", "0.0.1", "0..", "10.10", strings.Repeat("0", 300), "1." + strings.Repeat("0", 300), strings.Repeat("1.", 150)} {
		checkFault(t, text, 0)
		checkFault(t, "-"+text, 1)
		checkFault(t, "x + "+text, 4)
		checkFault(t, " "+text+" y", 1)
		checkFault(t, "1.5 "+text+"$", 4)
	}
}

// Tokens that follow one another at once, and those that only spaces keep apart.
func TestScanWhereTokensMeet(t *testing.T) {
	checkTokens(t, "2x", number(0, "2"), name(1, "x"))
	checkTokens(t, "2e5", number(0, "2"), name(1, "e5"))
	checkTokens(t, "2.5e", number(0, "2.5"), name(3, "e"))
	checkTokens(t, "0x10", number(0, "0"), name(1, "x10"))
	checkTokens(t, "0pi", number(0, "0"), name(1, "pi"))
	checkTokens(t, "3x_4 5", number(0, "3"), name(1, "x_4"), number(5, "5"))
	checkTokens(t, "1 2", number(0, "1"), number(2, "2"))
	checkTokens(t, "1 2.5 3", number(0, "1"), number(2, "2.5"), number(6, "3"))
	checkTokens(t, "x 2", name(0, "x"), number(2, "2"))
	checkTokens(t, "x2", name(0, "x2"))
	checkTokens(t, "x01", name(0, "x01"))
	checkTokens(t, "x_", name(0, "x_"))
	checkTokens(t, "x__1_", name(0, "x__1_"))
	checkTokens(t, "sqrt2", name(0, "sqrt2"))
	checkTokens(t, "sin cos", name(0, "sin"), name(4, "cos"))
	checkTokens(t, "sincos", name(0, "sincos"))
	checkTokens(t, "1e-5", number(0, "1"), name(1, "e"), sign(2, "-"), number(3, "5"))
	checkFault(t, "x.5", 1)
	checkFault(t, "x1.5", 2)
	checkFault(t, "x .5", 2)
	checkFault(t, "x_.", 2)
	checkFault(t, "x _", 2)
	checkFault(t, "x+_y", 2)
	checkFault(t, "2_", 1)
	checkFault(t, "2.5_", 3)
	checkFault(t, "2._5", 0)
	checkFault(t, "2.x", 0)
	checkFault(t, "2. 5", 0)
	checkFault(t, "2 .5", 2)
	checkFault(t, "1,5", 1)
	checkFault(t, ".5", 0)
	checkFault(t, "..1", 0)
	checkFault(t, "+.5", 1)
	checkFault(t, "1 .", 2)
}

// Words of up to some more than MaxName bytes, at the beginning and behind other tokens.
func TestScanOfLongWords(t *testing.T) {
	for n := 1; n <= api.MaxName+3; n++ {
		for _, letter := range []string{"a", "Z"} {
			for _, rest := range []string{"a", "Z", "0", "_"} {
				word := letter + strings.Repeat(rest, n-1)
				if n > api.MaxName {
					checkFault(t, word, 0)
					checkFault(t, " "+word, 1)
					checkFault(t, "1+"+word, 2)
					checkFault(t, "2.5"+word, 3)
					checkFault(t, "x "+word+" y", 2)
					checkFault(t, "("+word+")", 1)
					continue
				}
				checkTokens(t, word, name(0, word))
				checkTokens(t, "1+"+word, number(0, "1"), sign(1, "+"), name(2, word))
				checkTokens(t, "2.5"+word, number(0, "2.5"), name(3, word))
				checkTokens(t, "x "+word+" y", name(0, "x"), name(2, word), name(3+n, "y"))
				checkTokens(t, word+")", name(0, word), sign(n, ")"))
			}
		}
	}
	longest := strings.Repeat("w", api.MaxName)
	checkTokens(t, longest+" "+longest, name(0, longest), name(api.MaxName+1, longest))
	checkTokens(t, longest+"+1", name(0, longest), sign(api.MaxName, "+"), number(api.MaxName+1, "1"))
	checkFault(t, longest+longest, 0)
	checkFault(t, longest+" "+longest+"_", api.MaxName+1)
	checkFault(t, strings.Repeat("w", api.MaxText), 0)
}

// The first of two faults counts.
func TestScanOfTwoFaults(t *testing.T) {
	faults := []string{"$", ".", "_", "\x00", "\xff", "\t", "01", "1.", "2..5", "0.50", strings.Repeat("w", api.MaxName+1), "\u03c0", "="}
	for _, first := range faults {
		for _, second := range faults {
			checkFault(t, first+" "+second, 0)
			checkFault(t, first+"+"+second, 0)
			checkFault(t, " "+first+"("+second, 1)
			checkFault(t, "x1 +"+first+" y "+second, 4)
			checkFault(t, "x - 2.5 * "+first+"/"+second+" ", 10)
		}
	}
}

// Up to MaxText bytes, the faults count; beyond that, only the length.
func TestScanAtTheLimit(t *testing.T) {
	for _, n := range []int{api.MaxText - 1, api.MaxText, api.MaxText + 1, api.MaxText + 2, 2 * api.MaxText, 1 << 16, 1<<24 + 1} {
		for _, part := range []string{"x", " ", "7", "0", ".", "+", "-(", "x ", "1 ", "x+1-", "0.5*", "2x ", "_", "$", "\x00", "\x80", "\xff", "\u03c0", strings.Repeat("w", api.MaxName) + "+", strings.Repeat("w", api.MaxName+1) + "+"} {
			checkLimit(t, strings.Repeat(part, n/len(part)+1)[:n])
		}
		for _, fault := range []string{"$", ".", "_", "\x80", "\xff"} {
			checkLimit(t, fault+strings.Repeat("+", n-1))
			checkLimit(t, strings.Repeat("+", n-1)+fault)
			checkLimit(t, strings.Repeat("+", n/2)+fault+strings.Repeat("+", n-n/2-1))
		}
	}
}

func checkLimit(t *testing.T, s string) {
	t.Helper()
	checkOutcome(t, s, definitions().scan(s))
	if len(s) > api.MaxText {
		checkOutcome(t, s, outcome{at: 0, err: api.ErrLimit})
	}
}

// The longest texts that are divided, with their first and last tokens.
func TestScanOfTheLongestTexts(t *testing.T) {
	all := scan(strings.Repeat("-", api.MaxText))
	if all.err != api.OK || all.at != api.MaxText || len(all.tokens) != api.MaxText || all.tokens[api.MaxText-1] != sign(api.MaxText-1, "-") {
		t.Errorf("%d tokens, %d, error %d", len(all.tokens), all.at, all.err)
	}
	digits := strings.Repeat("8", api.MaxText)
	checkTokens(t, digits, number(0, digits))
	half := digits[:api.MaxText/2] + "." + digits[:api.MaxText/2-1]
	checkTokens(t, half, number(0, half))
	spaces := strings.Repeat(" ", api.MaxText-1)
	checkTokens(t, spaces+"x", name(api.MaxText-1, "x"))
	checkTokens(t, "x"+spaces, name(0, "x"))
	checkFault(t, spaces+"_", api.MaxText-1)
	checkFault(t, digits[1:]+"$", api.MaxText-1)
}

// joins returns the texts of tokens, joined in two ways: with single spaces, and without where two words or numbers do not meet.
func joins(tokens []api.Token) (spaced, dense string) {
	var texts []string
	var all strings.Builder
	for i, token := range tokens {
		texts = append(texts, token.Text)
		if i > 0 && token.Kind != api.TokSign && tokens[i-1].Kind != api.TokSign {
			all.WriteByte(' ')
		}
		all.WriteString(token.Text)
	}
	return strings.Join(texts, " "), all.String()
}

// placed returns tokens without their offsets.
func placed(tokens []api.Token) []api.Token {
	all := slices.Clone(tokens)
	for i := range all {
		all[i].At = 0
	}
	return all
}

// checkJoined checks the chapter's consequence, as far as the joined texts are not too long.
func checkJoined(t *testing.T, g grammar, s string) {
	t.Helper()
	first := scan(s)
	if first.err != api.OK {
		return
	}
	spaced, dense := joins(first.tokens)
	for _, joined := range []string{spaced, dense} {
		if len(joined) > api.MaxText {
			continue
		}
		checkOutcome(t, joined, g.scan(joined))
		if again := scan(joined); again.err != api.OK || again.at != len(joined) || !slices.Equal(placed(again.tokens), placed(first.tokens)) {
			t.Errorf("Scan(%+q): %v, but Scan(%+q): %v", s, first, joined, again)
		}
	}
}

// checkShort checks all texts that begin with the given one and go on with up to n bytes of the alphabet.
func checkShort(t *testing.T, g grammar, text, alphabet string, n int) {
	t.Helper()
	checkOutcome(t, text, g.scan(text))
	checkJoined(t, g, text)
	if n == 0 {
		return
	}
	for i := range len(alphabet) {
		checkShort(t, g, text+alphabet[i:i+1], alphabet, n-1)
	}
}

func TestScanOfAllShortTexts(t *testing.T) {
	g := definitions()
	checkShort(t, g, "", "e01. +_", 6)
	checkShort(t, g, "", "aZ09. +_($\x00\x80", 4)
}

// word returns a word of n bytes, which is none of those that are permitted if n is greater than MaxName.
func word(random *rand.Rand, n int) string {
	text := []byte{letters[random.IntN(len(letters))]}
	for range n - 1 {
		text = append(text, inWords[random.IntN(len(inWords))])
	}
	return string(text)
}

// part returns a part of a text: most often a token or spaces, sometimes a fault.
func part(random *rand.Rand) string {
	switch random.IntN(20) {
	case 0, 1, 2:
		return word(random, 1+random.IntN(4))
	case 3:
		return word(random, 1+random.IntN(api.MaxName))
	case 4, 5, 6:
		return strconv.Itoa(random.IntN(1000))
	case 7, 8:
		return strconv.Itoa(random.IntN(100)) + "." + strconv.Itoa(random.IntN(100)*10+1)
	case 9, 10, 11, 12:
		return strings.Repeat(" ", random.IntN(4))
	case 13:
		if random.IntN(12) == 0 {
			return string([]byte{byte(random.IntN(256))})
		}
	case 14:
		if random.IntN(12) == 0 {
			return []string{"0.50", "01", "1.", ".", "_", word(random, api.MaxName+1)}[random.IntN(6)]
		}
	}
	i := random.IntN(len(signs))
	return signs[i : i+1]
}

// Texts of many tokens, some with faults, and some that are too long.
func TestScan(t *testing.T) {
	random := rand.New(rand.NewPCG(18, 2))
	g := definitions()
	divided, faulty, long := 0, 0, 0
	for range 20000 {
		var text strings.Builder
		for range random.IntN(60) {
			text.WriteString(part(random))
		}
		want := g.scan(text.String())
		checkOutcome(t, text.String(), want)
		checkJoined(t, g, text.String())
		switch want.err {
		case api.OK:
			divided++
		case api.ErrSyntax:
			faulty++
		default:
			long++
		}
	}
	for range 40 {
		s := strings.Repeat(part(random)+" ", 500)
		checkOutcome(t, s, g.scan(s))
		long++
	}
	if divided < 1000 || faulty < 1000 || long < 10 {
		t.Errorf("%d texts are divided, %d are faulty and %d too long", divided, faulty, long)
	}
}

// Every token is the text at its offset, only spaces lie between tokens, and every word passes Word.
func TestTokensAreTheText(t *testing.T) {
	random := rand.New(rand.NewPCG(18, 3))
	for range 5000 {
		var text strings.Builder
		for range random.IntN(40) {
			text.WriteString(part(random))
		}
		s := text.String()
		got := scan(s)
		if got.err != api.OK {
			continue
		}
		at := 0
		for _, token := range got.tokens {
			if strings.Trim(s[at:token.At], " ") != "" || !strings.HasPrefix(s[token.At:], token.Text) || token.Text == "" {
				t.Errorf("Scan(%+q): %v, but the token at %d is not the text between %d and the next one", s, got, token.At, at)
			}
			if (token.Kind == api.TokName) != lexer.Word(token.Text) {
				t.Errorf("Scan(%+q): %v, which is not what Word says of the token at %d", s, got, token.At)
			}
			at = token.At + len(token.Text)
		}
		if strings.Trim(s[at:], " ") != "" || got.at != len(s) {
			t.Errorf("Scan(%+q) ends at %d", s, got.at)
		}
	}
}
