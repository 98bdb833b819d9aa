package symbol_test

import (
	"fmt"
	"math"
	"math/rand"
	"strings"
	"testing"

	"downtilt/api"
	"downtilt/symbol"
)

func TestFormatSymbols(t *testing.T) {
	for _, x := range []struct {
		l    []api.Gauss
		want string
	}{
		{nil, ""},
		{[]api.Gauss{g(3, -1), g(1, 1)}, "3,-1 1,1"},
		{[]api.Gauss{g(0, 0)}, "0,0"},
		{[]api.Gauss{g(math.MinInt, math.MaxInt)}, "-9223372036854775808,9223372036854775807"},
		{make([]api.Gauss, 300), strings.TrimSuffix(strings.Repeat("0,0 ", 300), " ")}, // more than a text may have
	} {
		if s := symbol.FormatSymbols(x.l); s != x.want {
			t.Errorf("FormatSymbols(%v): %q, want %q", x.l, s, x.want)
		}
	}
}

func TestParseSymbols(t *testing.T) {
	for _, x := range []struct {
		s    string
		want []api.Gauss
		e    api.Errno
	}{
		{"3,-1 1,1", []api.Gauss{g(3, -1), g(1, 1)}, api.OK},
		{"0,0", []api.Gauss{g(0, 0)}, api.OK},
		{"100000000,-100000000", []api.Gauss{g(100000000, -100000000)}, api.OK},
		{"100000001,0", nil, api.ErrRange},
		{"0,-100000001", nil, api.ErrRange},
		{"0,0 999999999,0", nil, api.ErrRange},
		{"-999999999,0", nil, api.ErrRange},
		{"1000000000,0", nil, api.ErrSyntax},
		{"0,-1000000000", nil, api.ErrSyntax},
		{"99999999999999999999999,0", nil, api.ErrSyntax},
		{"-9223372036854775808,0", nil, api.ErrSyntax},
		{"999999999,0 x", nil, api.ErrSyntax},
		{strings.Repeat("999999999,0 ", 201) + "0,0", nil, api.ErrLarge},
		{strings.Repeat("0,0 ", 200) + "0,0", nil, api.ErrLarge},
		{strings.Repeat("0,0 ", 5000) + "0,", nil, api.ErrSyntax},
	} {
		l, e := symbol.ParseSymbols(x.s)
		expect(t, fmt.Sprintf("ParseSymbols of %q", x.s), l, e, x.want, x.e)
	}
	for _, s := range []string{
		"", " ", "3", "3,", ",3", ",", "3,1,1", "3,1,", "3 1", "3, 1", "3 ,1", "3;1", "3,1i",
		" 3,1", "3,1 ", "3,1  1,1", "3,1\n", "3,1\n1,1", "3,1\t1,1", "\t", "3,1\x00",
		"+3,1", "3,+1", "-0,1", "3,-0", "03,1", "3,00", "3,-01", "--3,1", "3,-", "-,1", "3,- 1",
		"3.0,1", "1e3,1", "0x1,1", "1_0,1", "a,b", "٣,1", "3,\xff", "3，1", "0000000003,1",
	} {
		l, e := symbol.ParseSymbols(s)
		expect(t, fmt.Sprintf("ParseSymbols of %q", s), l, e, []api.Gauss(nil), api.ErrSyntax)
	}
}

// TestParseUndoesFormat is P3.13.
func TestParseUndoesFormat(t *testing.T) {
	r := rand.New(rand.NewSource(10))
	for count := 1; count <= 200; count++ {
		l := randomSymbols(r, count, []int{3, 1000, 100000000}[count%3])
		back, e := symbol.ParseSymbols(symbol.FormatSymbols(l))
		expect(t, "ParseSymbols", back, e, l, api.OK)
	}
}
