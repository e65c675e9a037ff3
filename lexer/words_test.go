package lexer_test

import (
	"strings"
	"testing"

	"exactreal/api"
	"exactreal/lexer"
)

// P18.1

const (
	lower   = "abcdefghijklmnopqrstuvwxyz"
	upper   = "ABCDEFGHIJKLMNOPQRSTUVWXYZ"
	letters = lower + upper
	digits  = "0123456789"
	inWords = letters + digits + "_"
	signs   = "+-*/^()"
)

// reserved returns the reserved words with the node kinds of those that are functions, and 0 for the two others.
func reserved() map[string]int {
	return map[string]int{"pi": 0, "e": 0, "sqrt": api.NodeSqrt, "exp": api.NodeExp, "ln": api.NodeLn, "sin": api.NodeSin, "cos": api.NodeCos, "atan": api.NodeAtan}
}

// isWord reports whether s is a word of at most MaxName bytes, byte by byte.
func isWord(s string) bool {
	for i := range len(s) {
		if strings.IndexByte(inWords, s[i]) < 0 {
			return false
		}
	}
	return 1 <= len(s) && len(s) <= api.MaxName && strings.IndexByte(letters, s[0]) >= 0
}

// beginningOf returns the first bytes of a text, to show them.
func beginningOf(s string) string {
	return s[:min(len(s), 60)]
}

// checkWord checks the three functions of P18.1.
func checkWord(t *testing.T, s string) {
	t.Helper()
	kind, isReserved := reserved()[s]
	if got := lexer.Word(s); got != isWord(s) {
		t.Errorf("Word(%+q), %d bytes, is %v", beginningOf(s), len(s), got)
	}
	if got := lexer.Reserved(s); got != isReserved {
		t.Errorf("Reserved(%+q), %d bytes, is %v", beginningOf(s), len(s), got)
	}
	if got := lexer.Function(s); got != kind {
		t.Errorf("Function(%+q), %d bytes, is %d, want %d", beginningOf(s), len(s), got, kind)
	}
}

func TestWordsOfExamples(t *testing.T) {
	for _, s := range []string{"a", "z", "A", "Z", "m", "M", "x1", "a0", "a9", "a_", "a__", "A_b_C_3", "Z9", "z_9_", "pi", "e", "sqrt", "Pi", "let", "x12345678901234567890123", "a_______________________"} {
		if !lexer.Word(s) {
			t.Errorf("%+q is no word", s)
		}
		checkWord(t, s)
	}
	for _, s := range []string{
		"", " ", "_", "_a", "__", "_1", "0", "1", "9", "1a", "0x", "9_", "a b", " a", "a ", "a.", "a.b", ".a", ".", "1.5", "a+b", "a-", "-a", "a*b", "a/b", "a^2", "(a)", "a(", ")a", "a\x00", "\x00", "\x00a", "a\x00b",
		"a\t", "a\n", "\na", "a\r\n", "a$", "$a", "a,b", "a'", "a\"", "a=b", "a:b", "a\x7f", "\x80", "a\x80", "\xffa", "a\xffb", "\u00e9", "a\u00e9", "\u03c0", "x\u2081", "\uff21", "a\u0661", "\u00aa", "a\u00b2",
	} {
		if lexer.Word(s) {
			t.Errorf("%+q is a word", s)
		}
		checkWord(t, s)
	}
}

// The bytes next to the letters, the digits and the underscore are among them, and those from 128 to 255.
func TestWordsWithEveryByte(t *testing.T) {
	for b := range 256 {
		other := string([]byte{byte(b)})
		for _, s := range []string{other, other + "a", other + "Z9_", "a" + other, "Z" + other, "a" + other + "z", "A_9" + other + "0", other + other, "a" + other + other, strings.Repeat("w", api.MaxName-1) + other, other + strings.Repeat("w", api.MaxName-1), strings.Repeat("w", api.MaxName) + other, other + strings.Repeat("w", api.MaxName)} {
			checkWord(t, s)
		}
		for word := range reserved() {
			checkWord(t, other+word)
			checkWord(t, word+other)
		}
	}
}

// Bytes at every place of texts of every length up to some more than MaxName.
func TestWordsOfEveryLength(t *testing.T) {
	for n := range api.MaxName + 4 {
		for i := range len(inWords) {
			checkWord(t, strings.Repeat(inWords[i:i+1], n))
		}
		for at := range n {
			for _, other := range []string{"q", "Q", "7", "_", " ", ".", "+", "\x00", "\x80", "\xff", "`", "{", "@", "[", "/", ":", "^"} {
				checkWord(t, strings.Repeat("k", at)+other+strings.Repeat("k", n-at-1))
			}
		}
	}
}

func TestWordsAtTheLimit(t *testing.T) {
	for _, c := range []struct {
		n    int
		want bool
	}{
		{0, false}, {1, true}, {2, true}, {api.MaxName - 1, true}, {api.MaxName, true}, {api.MaxName + 1, false}, {api.MaxName + 2, false}, {2 * api.MaxName, false}, {256 + 1, false}, {api.MaxText, false}, {1 << 16, false}, {1<<20 + 1, false},
	} {
		for _, s := range []string{strings.Repeat("a", c.n), strings.Repeat("sqrt", c.n)[:c.n], strings.Repeat("X9_", c.n)[:c.n]} {
			if got := lexer.Word(s); got != c.want {
				t.Errorf("Word of %d bytes is %v", c.n, got)
			}
			checkWord(t, s)
		}
	}
}

func TestReservedWords(t *testing.T) {
	for word, kind := range reserved() {
		if !lexer.Word(word) || !lexer.Reserved(word) || lexer.Function(word) != kind {
			t.Errorf("%+q: %v, %v, %d", word, lexer.Word(word), lexer.Reserved(word), lexer.Function(word))
		}
	}
	for _, s := range []string{"", "x", "PI", "Pi", "E", "SQRT", "Exp", "LN", "tan", "asin", "acos", "arctan", "sinh", "log", "log2", "abs", "pow", "root", "cbrt", "tau", "phi", "i", "inf", "neg", "add", "sub", "mul", "div", "const", "name", "let", "drop", "fuel", "sqrt(", "sin cos", "pi e", "e\x00", "\x00e", "\u03c0"} {
		if lexer.Reserved(s) || lexer.Function(s) != 0 {
			t.Errorf("%+q: %v, %d", s, lexer.Reserved(s), lexer.Function(s))
		}
	}
}

// checkNeighbours checks a word with a byte more, a byte less, another byte, and two bytes exchanged, at every place.
func checkNeighbours(t *testing.T, word string) {
	t.Helper()
	for at := range len(word) {
		checkWord(t, word[:at]+word[at+1:])
		checkWord(t, word[:at]+strings.ToUpper(word[at:at+1])+word[at+1:])
		checkWord(t, word[at:]+word[:at])
		for i := range len(inWords) {
			checkWord(t, word[:at]+inWords[i:i+1]+word[at+1:])
		}
	}
	for at := range len(word) + 1 {
		for b := range 256 {
			checkWord(t, word[:at]+string([]byte{byte(b)})+word[at:])
		}
	}
}

func TestNeighboursOfReservedWords(t *testing.T) {
	for word := range reserved() {
		checkWord(t, word)
		checkWord(t, strings.ToUpper(word))
		checkWord(t, strings.ToUpper(word[:1])+word[1:])
		checkNeighbours(t, word)
		for other := range reserved() {
			checkWord(t, word+other)
			checkWord(t, word+" "+other)
			checkWord(t, word+"_"+other)
		}
	}
}

// All texts of up to four bytes of the letters of the reserved words.
func TestAllShortWords(t *testing.T) {
	texts := []string{""}
	for range 4 {
		var longer []string
		for _, s := range texts {
			for i := range len("acelinopqrstx") {
				longer = append(longer, s+"acelinopqrstx"[i:i+1])
			}
		}
		for _, s := range texts {
			checkWord(t, s)
		}
		texts = longer
	}
	for _, s := range texts {
		checkWord(t, s)
	}
}
