package code_test

import (
	"math"
	"math/rand"
	"strings"
	"testing"

	"downtilt/api"
	"downtilt/code"
)

func TestFormatBits(t *testing.T) {
	for _, x := range []struct {
		bits []int
		want string
	}{
		{nil, ""},
		{[]int{0, 0, 1, 1}, "0011"},
		{[]int{1, 2, -1, 0, math.MinInt, math.MaxInt, 10}, "1??0???"},
		{make([]int, 500), strings.Repeat("0", 500)}, // more than a text may have
	} {
		if s := code.FormatBits(x.bits); s != x.want {
			t.Errorf("FormatBits(%v): %q, want %q", x.bits, s, x.want)
		}
	}
}

func TestParseBits(t *testing.T) {
	for _, x := range []struct {
		s    string
		want []int
		e    api.Errno
	}{
		{"", nil, api.OK},
		{"0011", []int{0, 0, 1, 1}, api.OK},
		{strings.Repeat("1", 201), nil, api.ErrLarge},
		{strings.Repeat("x", 201), nil, api.ErrLarge},
		{strings.Repeat("x", 200), nil, api.ErrSyntax},
		{"2", nil, api.ErrSyntax},
		{"01?", nil, api.ErrSyntax},
		{" 01", nil, api.ErrSyntax},
		{"01\n", nil, api.ErrSyntax},
		{"0\x001", nil, api.ErrSyntax},
		{"0\xff", nil, api.ErrSyntax},
		{"١", nil, api.ErrSyntax}, // a digit, but none of ASCII
	} {
		bits, e := code.ParseBits(x.s)
		expect(t, "ParseBits", bits, e, x.want, x.e)
	}
}

// TestParseUndoesFormat is P2.15.
func TestParseUndoesFormat(t *testing.T) {
	r := rand.New(rand.NewSource(13))
	for count := range 201 {
		bits := randomBits(r, count)
		back, e := code.ParseBits(code.FormatBits(bits))
		expect(t, "ParseBits", back, e, bits, api.OK)
	}
}
