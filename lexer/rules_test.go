package lexer_test

import (
	"math/rand/v2"
	"slices"
	"strings"
	"testing"
	"unsafe"

	"exactreal/api"
	"exactreal/lexer"
)

// texts returns texts that are divided, faulty or too long.
func texts() []string {
	all := []string{"", " ", "x", "x1 +2.5", "sqrt(2)^-3*pi/e", "a b c 1 2 3", "2x", "((((1))))", "2..5", "a$", "01", "x + y + _", "\x00", "\xff\xfe", "\u03c0", strings.Repeat("w", api.MaxName), strings.Repeat("w", api.MaxName+1), strings.Repeat("9", api.MaxText)}
	for _, n := range []int{api.MaxText - 1, api.MaxText, api.MaxText + 1, 1 << 12} {
		all = append(all, strings.Repeat("+", n), strings.Repeat("x ", n)[:n], strings.Repeat("$", n), strings.Repeat("0.5*", n)[:n])
	}
	return all
}

// overwrite changes all the memory that a list of tokens reaches.
func overwrite(tokens []api.Token) {
	all := tokens[:cap(tokens)]
	for i := range all {
		all[i] = api.Token{Kind: -1, At: -2, Text: "overwritten"}
	}
}

// Rules R2 and R5: two calls of Scan share no slice, and have equal results, whatever calls lie between them.
func TestCallsShareNothing(t *testing.T) {
	for _, s := range texts() {
		first, second := scan(s), scan(s)
		kept := second
		kept.tokens = slices.Clone(second.tokens)
		if !equal(first, kept) {
			t.Errorf("Scan(%+q): different results", beginningOf(s))
		}
		overwrite(first.tokens)
		if !equal(second, kept) {
			t.Errorf("Scan(%+q): two results share memory", beginningOf(s))
		}
		overwrite(second.tokens)
		scan("x1 + 2.5 * y")
		scan("a$")
		if third := scan(s); !equal(third, kept) {
			t.Errorf("Scan(%+q): another result, after earlier ones have been overwritten", beginningOf(s))
		}
	}
}

// Rule R2: a result shares no memory with the text, which is made of bytes that can be changed here, and is not changed itself.
func TestTextsAreNotKept(t *testing.T) {
	for _, s := range append(texts(), "x", "longer_name + 12345.678", "(-)") {
		memory := []byte(s + "x")
		text := unsafe.String(&memory[0], len(s))
		got, isWord, isReserved, kind := scan(text), lexer.Word(text), lexer.Reserved(text), lexer.Function(text)
		if string(memory) != s+"x" {
			t.Errorf("%+q is changed", beginningOf(s))
		}
		for i := range memory {
			memory[i] = '#'
		}
		if want := scan(s); !equal(got, want) {
			t.Errorf("Scan(%+q) shares memory with the text: %v", beginningOf(s), got)
		}
		if isWord != lexer.Word(s) || isReserved != lexer.Reserved(s) || kind != lexer.Function(s) {
			t.Errorf("%+q: Word, Reserved or Function has another result", beginningOf(s))
		}
	}
}

// Rule R4: no tokens beside an error, and an offset only as the chapter says.
func TestNoTokensBesideAnError(t *testing.T) {
	count := 0
	for _, s := range append(texts(), "x y z $", "1 + 2 + 03", "a b c "+strings.Repeat("w", api.MaxName+1)) {
		got := scan(s)
		switch {
		case got.err == api.OK:
			continue
		case len(got.tokens) > 0:
			t.Errorf("Scan(%+q): %d tokens beside error %d", beginningOf(s), len(got.tokens), got.err)
		case got.err == api.ErrLimit && (got.at != 0 || len(s) <= api.MaxText):
			t.Errorf("Scan of %d bytes: offset %d, error %d", len(s), got.at, got.err)
		case got.err == api.ErrSyntax && (got.at >= len(s) || len(s) > api.MaxText):
			t.Errorf("Scan of %d bytes: offset %d, error %d", len(s), got.at, got.err)
		}
		count++
	}
	if count < 10 {
		t.Errorf("only %d errors", count)
	}
}

// Rule R1: all functions end without a panic, for texts of any length and with any bytes.
func TestAnyTexts(t *testing.T) {
	random := rand.New(rand.NewPCG(18, 1))
	g := definitions()
	for range 20000 {
		memory := make([]byte, random.IntN(2*random.IntN(api.MaxText)+1))
		for i := range memory {
			memory[i] = byte(random.IntN(256))
		}
		s := string(memory)
		checkWord(t, s)
		checkOutcome(t, s, g.scan(s))
	}
	for _, n := range []int{1 << 10, 1 << 16, 1 << 26} {
		for _, part := range []string{"a", "0", ".", " ", "+", "\x00", "\xff"} {
			s := strings.Repeat(part, n)
			checkOutcome(t, s, outcome{err: api.ErrLimit})
			if lexer.Word(s) || lexer.Reserved(s) || lexer.Function(s) != 0 {
				t.Errorf("%d times %+q is a word", n, part)
			}
		}
	}
}

// Words, reserved words and functions, the other way round: each function is reserved, and each reserved word is a word.
func TestKindsAgree(t *testing.T) {
	found := map[int]string{}
	for s := range reserved() {
		if kind := lexer.Function(s); kind != 0 {
			found[kind] = s
		}
	}
	for kind := api.NodeSqrt; kind <= api.NodeAtan; kind++ {
		if s := found[kind]; !lexer.Reserved(s) || !lexer.Word(s) {
			t.Errorf("the node kind %d has the function %+q", kind, s)
		}
	}
	if len(found) != 6 {
		t.Errorf("%d functions", len(found))
	}
}
