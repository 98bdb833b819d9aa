package beam_test

import (
	"fmt"
	"math"
	"math/rand"
	"strings"
	"testing"

	"downtilt/api"
	"downtilt/beam"
)

func TestFormatBeam(t *testing.T) {
	for _, x := range []struct {
		b    api.BeamBeam
		want string
	}{
		{phased(), ""},
		{phased(0, 7, -1, 5), "0 7 - 5"},
		{phased(-1), "-"},
		{phased(1, 2, 3, 4, 6), "1 2 3 4 6"},
		{phased(8, -2, 0), "? ? 0"},
		{phased(math.MinInt, math.MaxInt, 10), "? ? ?"},
		{phased(make([]int, 20)...), strings.TrimSuffix(strings.Repeat("0 ", 20), " ")},
	} {
		if s := beam.FormatBeam(x.b); s != x.want {
			t.Errorf("FormatBeam(%v): %q, want %q", x.b, s, x.want)
		}
	}
}

func TestParseBeam(t *testing.T) {
	for _, x := range []struct {
		s    string
		want api.BeamBeam
		e    api.Errno
	}{
		{"0 7 - 5", phased(0, 7, -1, 5), api.OK},
		{"0", phased(0), api.OK},
		{"- - 3", phased(-1, -1, 3), api.OK},
		{"0 1 2 3 4 5 6 7", phased(0, 1, 2, 3, 4, 5, 6, 7), api.OK},
		{"-", phased(), api.ErrZero},
		{"- - - - - - - -", phased(), api.ErrZero},
		{"- - - - - - - - -", phased(), api.ErrLarge},
		{"0 1 2 3 4 5 6 7 0", phased(), api.ErrLarge},
		{strings.Repeat("0 ", 1<<20) + "0", phased(), api.ErrLarge},
		{strings.Repeat("0 ", 1<<20) + "8", phased(), api.ErrSyntax},
		{strings.Repeat("0 ", 9), phased(), api.ErrSyntax},
		{"- -8", phased(), api.ErrSyntax},
	} {
		b, e := beam.ParseBeam(x.s)
		expect(t, fmt.Sprintf("ParseBeam of %.30q", x.s), b, e, x.want, x.e)
	}
	for _, s := range []string{
		"", " ", "  ", "8", "9", "10", "00", "01", "+1", "-1", "-0", "--", "?", "0 ?", "a", "O", "l",
		" 0", "0 ", "0  1", "0\t1", "0\n", "\n", "0 1\n2", "0,1", "0-", "0 -1", "0\x00", "\xff", "٣", "−", "–", "７", "01234567",
	} {
		b, e := beam.ParseBeam(s)
		expect(t, fmt.Sprintf("ParseBeam of %q", s), b, e, phased(), api.ErrSyntax)
	}
}

// TestParseAnyText tries all short texts of a few bytes.
func TestParseAnyText(t *testing.T) {
	right := 0
	texts := []string{""}
	for range 6 {
		for _, s := range texts {
			_, e := beam.ParseBeam(s)
			words := strings.Split(s, " ")
			want, on := api.OK, false
			for _, word := range words {
				on = on || word != "-"
				if len(word) != 1 || !strings.Contains("-01234567", word) {
					want = api.ErrSyntax
				}
			}
			if want == api.OK && !on {
				want = api.ErrZero
			}
			if want == api.OK {
				right++
			}
			expect(t, fmt.Sprintf("ParseBeam of %q", s), e, e, want, want)
		}
		var longer []string
		for _, s := range texts {
			for _, c := range "07- 8" {
				longer = append(longer, s+string(c))
			}
		}
		texts = longer
	}
	if right != 2+8+26 {
		t.Errorf("%d right texts", right)
	}
}

// TestParseUndoesFormat is P5.14.
func TestParseUndoesFormat(t *testing.T) {
	for _, b := range manyBeams() {
		back, e := beam.ParseBeam(beam.FormatBeam(b))
		expect(t, "ParseBeam", back, e, b, api.OK)
	}
	r := rand.New(rand.NewSource(41))
	for i := range 2000 {
		b := randomBeam(r, 1+i%8)
		s := beam.FormatBeam(b)
		if again := beam.FormatBeam(must(beam.ParseBeam(s))); again != s {
			t.Errorf("%q is written again as %q", s, again)
		}
	}
}
