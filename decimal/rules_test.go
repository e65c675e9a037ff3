package decimal_test

import (
	"math/big"
	"slices"
	"strings"
	"testing"

	"exactreal/api"
	"exactreal/decimal"
)

// roomy returns a copy of a list with room behind its elements, to which a function must not append.
func roomy(a []uint32) []uint32 {
	return slices.Concat(a, []uint32{5, 6, 7, 8})[:len(a)]
}

// checkNumber checks rules R2 and R5 for the functions of a number: the argument stays as it is, and equal calls have equal results.
func checkNumber(t *testing.T, neg bool, a []uint32) {
	t.Helper()
	list := roomy(a)
	whole := list[:len(a)+4]
	kept := slices.Clone(whole)
	digits, text := decimal.Digits(list), decimal.Format(api.Int{Neg: neg, Mag: list})
	if again := decimal.Digits(list); again != digits {
		t.Errorf("Digits(%v): %q, then %q", a, digits, again)
	}
	if again := decimal.Format(api.Int{Neg: neg, Mag: list}); again != text {
		t.Errorf("Format(%v, %v): %q, then %q", neg, a, text, again)
	}
	if !slices.Equal(whole, kept) {
		t.Errorf("Digits(%v) or Format(%v, %v) changes its argument", a, neg, a)
	}
}

func TestMemoryOfNumbers(t *testing.T) {
	for _, a := range lists() {
		checkNumber(t, false, a)
		checkNumber(t, len(a) > 0, a)
	}
}

// For integers that are not valid and for lists that are no naturals, nothing but R1 (an end, and no panic), R2 and R5 holds.
func TestUnspecifiedNumbers(t *testing.T) {
	for _, a := range [][]uint32{nil, {}, {0}, {0, 0}, {0, 0, 0}, {7, 0}, {5, 1, 0}, {top, 0, 0}, {0, top, 0}, {0, 0, 1, 0}, {0, 1 << 31, 0, 0}} {
		checkNumber(t, false, a)
		checkNumber(t, true, a)
	}
	for _, a := range lists() {
		for zeros := 1; zeros <= 3; zeros++ {
			checkNumber(t, true, slices.Concat(a, make([]uint32, zeros)))
		}
	}
	checkNumber(t, true, make([]uint32, 1<<16))
}

// overwrite changes all the memory that a list reaches.
func overwrite(a []uint32) {
	all := a[:cap(a)]
	for i := range all {
		all[i] = ^all[i]
	}
}

// checkParsed checks rules R2 and R5 for the functions of a text: results share no memory with each other, and equal calls have equal results.
func checkParsed(t *testing.T, text string) {
	t.Helper()
	a, errA := decimal.Natural(text)
	x, errX := decimal.Parse(text)
	h, errH := decimal.Unhex(text)
	keptA, keptX := slices.Clone(a), slices.Clone(x.Mag)
	b, errB := decimal.Natural(text)
	y, errY := decimal.Parse(text)
	g, errG := decimal.Unhex(text)
	shown := text[:min(len(text), 40)]
	if errB != errA || errY != errX || errG != errH || g != h || !slices.Equal(a, b) || x.Neg != y.Neg || !slices.Equal(x.Mag, y.Mag) {
		t.Errorf("%q: two calls differ", shown)
	}
	for _, result := range [][]uint32{b, y.Mag} {
		overwrite(result)
	}
	if !slices.Equal(a, keptA) || !slices.Equal(x.Mag, keptX) {
		t.Errorf("%q: results share memory", shown)
	}
	overwrite(a)
	if !slices.Equal(x.Mag, keptX) {
		t.Errorf("%q: results of Natural and Parse share memory", shown)
	}
}

func TestMemoryOfTexts(t *testing.T) {
	for _, a := range lists() {
		v := value(false, a)
		checkParsed(t, v.String())
		checkParsed(t, "-"+v.String())
		checkParsed(t, decimal.Hex(v.Uint64()))
	}
	longest := new(big.Int).Sub(powerOfTen(maxBytes), big.NewInt(1)).String()
	for _, text := range []string{"", "-", "-0", "00", "x", "\xff", longest, "-" + longest[1:], longest + "9", strings.Repeat("x", 1<<20)} {
		checkParsed(t, text)
	}
}

// Whatever the bytes and the length of a text, every function ends (R1), and only results without an error are not zero (R4).
func FuzzTexts(f *testing.F) {
	for _, text := range []string{"", "0", "-0", "12", "-12", "007", "00000000000000ff", "1\x80", strings.Repeat("9", maxBytes+1)} {
		f.Add(text)
	}
	f.Fuzz(func(t *testing.T, text string) {
		if a, err := decimal.Natural(text); err == api.OK && decimal.Digits(a) != text || err != api.OK && len(a) > 0 {
			t.Errorf("Natural(%q) = %v, %d", text, a, err)
		}
		if x, err := decimal.Parse(text); err == api.OK && decimal.Format(x) != text || err != api.OK && !isZero(x) {
			t.Errorf("Parse(%q) = %v, %d", text, x, err)
		}
		if h, err := decimal.Unhex(text); err == api.OK && decimal.Hex(h) != text || err != api.OK && h != 0 {
			t.Errorf("Unhex(%q) = %d, %d", text, h, err)
		}
		checkParsed(t, text)
	})
}
