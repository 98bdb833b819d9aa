package plan_test

import (
	"fmt"
	"math"
	"math/rand"
	"strings"
	"testing"

	"downtilt/api"
	"downtilt/plan"
)

func TestTexts(t *testing.T) {
	for _, x := range []struct {
		text string
		c    api.PlanCell
	}{
		{"a 4 0 0 30 600 10", exampleCell()}, // the example 7 of the chapter
		{"b-2 1 2 3 4 5 6", api.PlanCell{Name: "b-2", Identity: 1, At: [2]int{2, 3}, Mast: 4, Power: 5, Tilt: 6}},
		{"Z 0 0 0 1 -2000 0", api.PlanCell{Name: "Z", Mast: 1, Power: -2000}},
		{"abcdefghijkl 1007 11 11 200 1000 11", api.PlanCell{Name: "abcdefghijkl", Identity: 1007, At: [2]int{11, 11}, Mast: 200, Power: 1000, Tilt: 11}},
		{"A-b-9 0 11 0 1 0 11", api.PlanCell{Name: "A-b-9", At: [2]int{11, 0}, Mast: 1, Tilt: 11}},
		{"a 0 0 11 1 -1 0", api.PlanCell{Name: "a", At: [2]int{0, 11}, Mast: 1, Power: -1}},
	} {
		if s := plan.FormatCell(x.c); s != x.text {
			t.Errorf("FormatCell(%v): %q, want %q", x.c, s, x.text)
		}
		got, e := plan.ParseCell(x.text)
		expect(t, fmt.Sprintf("ParseCell of %q", x.text), got, e, x.c, api.OK)
	}
	for _, x := range []struct {
		c    api.PlanCell
		want string
	}{
		{api.PlanCell{}, " 0 0 0 0 0 0"},
		{api.PlanCell{Name: "no name", Identity: -1, At: [2]int{12, -7}, Mast: 201, Power: 5000, Tilt: 99}, "no name -1 12 -7 201 5000 99"},
		{api.PlanCell{Name: "\xff\n", Identity: math.MinInt, At: [2]int{math.MaxInt, math.MinInt}, Mast: math.MaxInt, Power: math.MinInt, Tilt: math.MaxInt}, "\xff\n -9223372036854775808 9223372036854775807 -9223372036854775808 9223372036854775807 -9223372036854775808 9223372036854775807"},
	} {
		if s := plan.FormatCell(x.c); s != x.want {
			t.Errorf("FormatCell(%v): %q, want %q", x.c, s, x.want)
		}
	}
}

// notNumbers is words and other things that are no numbers of at most nine digits.
func notNumbers() []string {
	return []string{"", "-", "--1", "+1", "+0", "-0", "00", "01", "-01", "1.0", "1e2", "0x1", "1_0", "a", "1a", "a1", "1-", "1000000000", "-1000000000", "0000000001", "000000000", "9223372036854775808", "-9223372036854775809", strings.Repeat("9", 1000), "٣", "１", "1\x00", "\xff", "1\n", "\t1", "1;", "1,2", "1 2", " 1", "1 "}
}

// expectRefused looks whether a text has an error.
func expectRefused(t *testing.T, s string, f api.Errno) {
	t.Helper()
	c, e := plan.ParseCell(s)
	expect(t, fmt.Sprintf("ParseCell of %.60q", s), c, e, api.PlanCell{}, f)
}

func TestTextsThatAreNotWrittenRight(t *testing.T) {
	const right = "a 4 0 0 30 600 10"
	texts := []string{
		"", " ", "a", "a ", "      ", "       ", "a 4 0 0 30 600", "a 4 0 0 30 600 ", "a 4 0 0 30 600 10 ", "a 4 0 0 30 600 10 0", " " + right, "  4 0 0 30 600 10", " 4 0 0 30 600 10", "4 0 0 30 600 10", "a  4 0 0 30 600 10", right + "\n", "\n" + right + " 1", right + "|", right + "\x00",
		"a\t4\t0\t0\t30\t600\t10", "a,4,0,0,30,600,10", "a b 4 0 0 30 600 10", "a 4 0 0 30 600 10 x", "a\n4 0 0 30 600 10", "1b 4 0 0 30 600 x", "a 9999 0 0 30 600 x",
		strings.Repeat(" ", 1<<20), strings.Repeat("a ", 1<<20), "a" + strings.Repeat(" 1", 1<<20), strings.Repeat("1", 1<<20),
	}
	for at := 1; at < 7; at++ {
		for _, number := range notNumbers() {
			words := strings.Split(right, " ")
			words[at] = number
			texts = append(texts, strings.Join(words, " "))
		}
	}
	for _, s := range texts {
		expectRefused(t, s, api.ErrSyntax)
	}
}

// TestErrorsOfTexts is of texts that are written right, of cells that are not.
func TestErrorsOfTexts(t *testing.T) {
	words := []string{"a", "4", "0", "0", "30", "600", "10"}
	wrongs := [][]string{
		{"1", "-", "a;b", "a_b", "abcdefghijklm", "ä", "a\tb", "a\n", "\xff", strings.Repeat("a", 1<<20)},
		{"-1", "1008", "999999999", "-999999999"},
		{"-1", "12", "999999999", "-999999999"},
		{"-1", "12", "999999999", "-999999999"},
		{"-1", "0", "201", "999999999", "-999999999"},
		{"-2001", "1001", "999999999", "-999999999"},
		{"-1", "12", "999999999", "-999999999"},
	}
	for at, l := range wrongs {
		f := api.ErrRange
		if at == 0 {
			f = api.ErrName
		}
		for i, word := range l {
			one := append([]string{}, words...)
			one[at] = word
			expectRefused(t, strings.Join(one, " "), f)
			for later := at + 1; later < len(words); later++ {
				both := append([]string{}, one...)
				both[later] = wrongs[later][i%len(wrongs[later])]
				expectRefused(t, strings.Join(both, " "), f)
				both[later] = "x"
				expectRefused(t, strings.Join(both, " "), api.ErrSyntax)
			}
		}
	}
}

// TestParseUndoesFormat is P9.16.
func TestParseUndoesFormat(t *testing.T) {
	r := rand.New(rand.NewSource(102))
	for number := range 3000 {
		raster := randomRaster(r)
		c := randomCell(r, raster, number)
		c.Power = upTo(r, 3000) - 2000
		e := plan.CheckCell(raster, c)
		expect(t, fmt.Sprint("CheckCell ", c), e, e, api.OK, api.OK)
		again, e := plan.ParseCell(plan.FormatCell(c))
		expect(t, fmt.Sprint("ParseCell ", c), again, e, c, api.OK)
	}
}

// TestFormatUndoesParse is of texts that are accepted: each cell has one text only, and is right on a raster of all points.
func TestFormatUndoesParse(t *testing.T) {
	r := rand.New(rand.NewSource(103))
	accepted := 0
	for range 20000 {
		s := spoilText(r, []string{"a 4 0 0 30 600 10", "b-2 1000 9 11 199 -15 0"}[r.Intn(2)])
		c, e := plan.ParseCell(s)
		if e != api.OK {
			continue
		}
		accepted++
		if back := plan.FormatCell(c); back != s {
			t.Errorf("%q is written again as %q", s, back)
		}
		e = plan.CheckCell(flat(12, 12), c)
		expect(t, fmt.Sprint("CheckCell ", c), e, e, api.OK, api.OK)
	}
	if accepted < 1000 {
		t.Errorf("%d accepted", accepted)
	}
}

func spoilText(r *rand.Rand, s string) string {
	for range 1 + r.Intn(2) {
		at := r.Intn(len(s))
		s = s[:at] + string("0159- +,|d\n"[r.Intn(11)]) + s[at+r.Intn(2):]
	}
	return s
}
