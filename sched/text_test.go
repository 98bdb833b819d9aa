package sched_test

import (
	"fmt"
	"math"
	"math/rand"
	"strings"
	"testing"

	"downtilt/api"
	"downtilt/sched"
)

func TestFormatBearer(t *testing.T) {
	negative := api.SchedBearer{Name: "no name", Kind: api.SchedBest, Priority: -1, Weight: -2, Power: math.MinInt, Least: math.MaxInt, Burst: -10, Rate: 1000000000, Delay: 7}
	for _, x := range []struct {
		x    api.SchedBearer
		want string
	}{
		{exampleSure(), "v sure 1 1 20 1 100 20 4"},
		{exampleBest(), "b best 0 1 10 0 0 0 0"},
		{guaranteed("e", api.SchedEmergency, 10, 1, 80, 0, 1), "e emergency 1 1 10 1 80 0 1"},
		{api.SchedBearer{Name: "n", Kind: api.SchedSure, Priority: 1, Weight: 2, Power: 3, Least: 4, Burst: 5, Rate: 6, Delay: 7}, "n sure 1 2 3 4 5 6 7"},
		{api.SchedBearer{}, " best 0 0 0 0 0 0 0"},
		{negative, "no name best -1 -2 -9223372036854775808 9223372036854775807 -10 1000000000 7"},
		{api.SchedBearer{Name: "n", Kind: -1, Weight: 1}, ""},
		{api.SchedBearer{Name: "n", Kind: 3, Weight: 1}, ""},
		{api.SchedBearer{Name: "n", Kind: math.MinInt}, ""},
		{api.SchedBearer{Name: "n", Kind: math.MaxInt}, ""},
	} {
		if s := sched.FormatBearer(x.x); s != x.want {
			t.Errorf("FormatBearer(%v): %q, want %q", x.x, s, x.want)
		}
	}
}

func TestParseBearer(t *testing.T) {
	for _, x := range []struct {
		s    string
		want api.SchedBearer
	}{
		{"v sure 1 1 20 1 100 20 4", exampleSure()},
		{"b best 0 1 10 0 0 0 0", exampleBest()},
		{"n emergency 1 2 3 4 5 6 7", api.SchedBearer{Name: "n", Kind: api.SchedEmergency, Priority: 1, Weight: 2, Power: 3, Least: 4, Burst: 5, Rate: 6, Delay: 7}},
		{"abcdefghijkl best -1 -999999999 999999999 5 -20 0 100000000", api.SchedBearer{Name: "abcdefghijkl", Priority: -1, Weight: -999999999, Power: 999999999, Least: 5, Burst: -20, Delay: 100000000}},
		{"best best 0 0 0 0 0 0 0", api.SchedBearer{Name: "best"}},
		{"Z-9 sure 0 0 0 0 0 0 0", api.SchedBearer{Name: "Z-9", Kind: api.SchedSure}},
	} {
		b, e := sched.ParseBearer(x.s)
		expect(t, fmt.Sprintf("ParseBearer of %q", x.s), b, e, x.want, api.OK)
	}
}

func TestParseWrongWords(t *testing.T) {
	for _, s := range []string{
		"", " ", "v", "sure", "v sure", "v sure 1 1 20 1 100 20", "v sure 1 1 20 1 100 20 4 5", "v sure 1 1 20 1 100 20 4 ", " v sure 1 1 20 1 100 20 4",
		"v  sure 1 1 20 1 100 20 4", "v sure  1 1 20 1 100 20 4", "v sure 1 1 20 1 100 20  4", " sure 1 1 20 1 100 20 4", "v  1 1 20 1 100 20 4", "v sure 1 1 20 1 100 20 ",
		"v Sure 1 1 20 1 100 20 4", "v none 1 1 20 1 100 20 4", "v 1 1 1 20 1 100 20 4", "v sur 1 1 20 1 100 20 4", "v surely 1 1 20 1 100 20 4",
		"v sure 1 1 20 1 100 20 4\n", "v\tsure 1 1 20 1 100 20 4", "v sure 1 1 20 1 100 20\t4", "1 sure 1 1 20 1 100 20 x", "1 none 1 1 20 1 100 20 4", strings.Repeat(" ", 8), strings.Repeat("a ", 1<<20),
	} {
		b, e := sched.ParseBearer(s)
		expect(t, fmt.Sprintf("ParseBearer of %.60q", s), b, e, api.SchedBearer{}, api.ErrSyntax)
	}
	for _, number := range []string{"", "-", "+1", "01", "00", "-0", "-01", "--1", "1-", "1.", "1e3", "0x1", "1_0", "a", "1000000000", "-1000000000", "0000000001", "9223372036854775808", strings.Repeat("9", 1000), "٣", "１", "1\x00", "\xff"} {
		for at := range 7 {
			words := strings.Split("v sure 1 1 20 1 100 20 4", " ")
			words[2+at] = number
			s := strings.Join(words, " ")
			b, e := sched.ParseBearer(s)
			expect(t, fmt.Sprintf("ParseBearer of %.60q", s), b, e, api.SchedBearer{}, api.ErrSyntax)
		}
	}
}

func TestParseWrongNames(t *testing.T) {
	for _, w := range wrongNames() {
		if w.x == "" || strings.Contains(w.x, " ") {
			continue
		}
		b, e := sched.ParseBearer(w.x + " sure 1 1 20 1 100 20 4")
		expect(t, fmt.Sprintf("ParseBearer of the name %.20q", w.x), b, e, api.SchedBearer{}, api.ErrName)
	}
}

// TestParseUndoesFormat is the first part of P6.13.
func TestParseUndoesFormat(t *testing.T) {
	r := rand.New(rand.NewSource(73))
	for range 2000 {
		s := randomSite(r)
		x := randomBearer(r, s, []string{"a", "b-", "Name9", "abcdefghijkl"}[r.Intn(4)])
		back, e := sched.ParseBearer(sched.FormatBearer(x))
		expect(t, fmt.Sprint("ParseBearer ", x), back, e, x, api.OK)
	}
	greatest := api.SchedBearer{Name: "a", Kind: api.SchedSure, Priority: 100, Weight: 100, Power: 100000, Least: 15, Burst: 1000000, Rate: 1000000, Delay: 1000}
	back, e := sched.ParseBearer(sched.FormatBearer(greatest))
	expect(t, "ParseBearer of the greatest one", back, e, greatest, api.OK)
}

// TestFormatUndoesParse is of texts that are accepted: each bearer has one text only.
func TestFormatUndoesParse(t *testing.T) {
	r := rand.New(rand.NewSource(74))
	right := 0
	for range 20000 {
		s := "v sure 1 1 20 1 100 20 4"
		for range 1 + r.Intn(2) {
			at := r.Intn(len(s))
			s = s[:at] + string("0159- +vbsure\n"[r.Intn(14)]) + s[at+r.Intn(2):]
		}
		x, e := sched.ParseBearer(s)
		if e != api.OK {
			continue
		}
		right++
		if back := sched.FormatBearer(x); back != s {
			t.Errorf("%q is written again as %q", s, back)
		}
	}
	if right < 1000 {
		t.Errorf("%d right texts", right)
	}
}
