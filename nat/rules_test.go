package nat_test

import (
	"math"
	"slices"
	"testing"

	"exactreal/api"
	"exactreal/nat"
)

// operation calls a function of the package with two lists and a number, of which it uses those it needs, and returns the list that results.
type operation struct {
	name string
	call func(a, b []uint32, n int) []uint32
}

func operations() []operation {
	return []operation{
		{"Trim", func(a, _ []uint32, _ int) []uint32 { return nat.Trim(a) }},
		{"Of", func(_, _ []uint32, n int) []uint32 { return nat.Of(uint64(n)) }},
		{"Add", func(a, b []uint32, _ int) []uint32 { return nat.Add(a, b) }},
		{"Sub", func(a, b []uint32, _ int) []uint32 { d, _ := nat.Sub(a, b); return d }},
		{"Shl", func(a, _ []uint32, n int) []uint32 { return nat.Shl(a, n) }},
		{"Shr", func(a, _ []uint32, n int) []uint32 { return nat.Shr(a, n) }},
		{"Low", func(a, _ []uint32, n int) []uint32 { return nat.Low(a, n) }},
		{"without a list", func(a, b []uint32, n int) []uint32 { inspect(a, b, n); return nil }},
	}
}

func inspect(a, b []uint32, n int) {
	nat.Valid(a)
	nat.Uint(a)
	nat.Cmp(a, b)
	nat.Bits(a)
	nat.Bit(a, n)
	nat.Zeros(a)
}

// roomy returns a copy of a with room behind it, to which a function must not append.
func roomy(a []uint32) []uint32 {
	room := make([]uint32, len(a), len(a)+4)
	copy(room, a)
	return room
}

// overwrite changes all the memory that a list reaches.
func overwrite(a []uint32) {
	for i := range a[:cap(a)] {
		a[:cap(a)][i] ^= top
	}
}

// checkMemory checks rule R2: arguments stay as they are, and results share no memory with them or with each other.
func checkMemory(t *testing.T, op operation, a, b []uint32, n int) {
	t.Helper()
	x, y := roomy(a), roomy(b)
	first := op.call(x, y, n)
	second := op.call(x, y, n)
	kept := slices.Clone(second)
	overwrite(first)
	blank := make([]uint32, 4)
	if !slices.Equal(x, a) || !slices.Equal(y, b) || !slices.Equal(x[len(x):cap(x)], blank) || !slices.Equal(y[len(y):cap(y)], blank) {
		t.Errorf("%s%v changes an argument or shares memory with it", op.name, []any{a, b, n})
	}
	overwrite(x)
	overwrite(y)
	if !slices.Equal(second, kept) {
		t.Errorf("%s%v has results that share memory", op.name, []any{a, b, n})
	}
}

// Lists that are no naturals and numbers out of range are among the arguments: for these, nothing but R1 (no panic) and R2 holds.
func TestRules(t *testing.T) {
	all := lists(3, 0, 1, top)
	numbers := []int{math.MinInt, -api.MaxShift - 1, -33, -32, -31, -1, 0, 1, 31, 32, 33, 64, 95, 96, 97, api.MaxShift + 1, math.MaxInt - 31, math.MaxInt}
	for _, op := range operations() {
		for _, a := range all {
			for _, b := range all {
				checkMemory(t, op, a, b, 0)
			}
			for _, n := range numbers {
				checkMemory(t, op, a, nil, n)
			}
		}
	}
}

// Results that are lists are naturals.
func TestResultsAreNaturals(t *testing.T) {
	all := naturals(3, 0, 1, 1<<31, top)
	for _, op := range operations() {
		for _, a := range all {
			for _, b := range all {
				equal(t, "Valid of "+op.name, nat.Valid(op.call(a, b, 0)), true, a, b)
			}
			for _, n := range places() {
				equal(t, "Valid of "+op.name, nat.Valid(op.call(a, nil, n)), true, a, n)
			}
		}
	}
}

func TestSameArgument(t *testing.T) {
	for _, a := range naturals(3, 0, 1, 1<<31, top) {
		twice := nat.Add(a, a)
		same(t, "Add", twice, nat.Shl(a, 1), a, a)
		equal(t, "Cmp", nat.Cmp(a, a), 0, a, a)
		checkSub(t, a, a)
	}
}
