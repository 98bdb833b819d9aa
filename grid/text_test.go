package grid_test

import (
	"math/rand"
	"strings"
	"testing"

	"downtilt/api"
	"downtilt/grid"
)

func TestPrint(t *testing.T) {
	s, e := grid.Print(example())
	expect(t, "Print", s, e, exampleText, api.OK)
	s, e = grid.Print(mixed())
	expect(t, "Print of two parts", s, e, strings.Replace(exampleText, "part 0 0 4\n", "part 0 0 4\npart 1 24 1\n", 1)+"signal data 1 1 0 0 0 2 0 1 1 0\n", api.OK)
	c := example()
	c.Signals[0].Kind = api.GridGuard
	c.Signals = c.Signals[:1]
	s, e = grid.Print(c)
	expect(t, "Print of a guard", s, e, "carrier c 4 48\npart 0 0 4\nsignal guard 0 20 0 0 2 2 0 2 1 0\n", api.OK)
	s, e = grid.Print(wrong())
	expect(t, "Print of a wrong carrier", s, e, "", api.ErrName)
}

func TestParse(t *testing.T) {
	for _, text := range []string{
		exampleText,
		strings.TrimSuffix(exampleText, "\n"),
		strings.ReplaceAll(exampleText, "\n", "\n \n\n\t\n"),
		"\n \t\n" + exampleText + "\n\n  ",
		strings.ReplaceAll(exampleText, " ", " \t "),
		"\t" + strings.ReplaceAll(exampleText, "\n", "\t \n  "),
	} {
		c, m, e := grid.Parse(text)
		expect(t, "Parse", c, e, example(), api.OK)
		expect(t, "the mark of Parse", m, e, api.TextMark{}, api.OK)
	}
	c, _, e := grid.Parse("carrier a-Z9 1007 600\npart 3 504 1\nsignal data 0 10240 10239 7 13 1 0 1 12 11")
	want := api.GridCarrier{Name: "a-Z9", Cell: 1007, Width: 600, Parts: []api.GridPart{{Mu: 3, First: 504, Blocks: 1}}}
	want.Signals = []api.GridSignal{{Kind: api.GridData, Period: 10240, Offset: 10239, Slot: 7, Symbol: 13, Symbols: 1, Blocks: 1, Step: 12, Shift: 11}}
	expect(t, "Parse", c, e, want, api.OK)
}

func TestErrorsOfTexts(t *testing.T) {
	start := "carrier a 0 12\npart 0 0 1\n"
	data := "signal data 0 1 0 - 0 1 0 1 1 0"
	for _, x := range []struct {
		text         string
		line, column int
		e            api.Errno
	}{
		// the first word
		{"part 0 0 1", 1, 1, api.ErrSyntax},
		{"signal data", 1, 1, api.ErrSyntax},
		{"Carrier a 0 12", 1, 1, api.ErrSyntax},
		{"\n \t x", 2, 4, api.ErrSyntax},
		{"carrier a 0 12\ncarrier a 0 12", 2, 1, api.ErrSyntax},
		{"carrier a 0 12\n  parts 0 0 1", 2, 3, api.ErrSyntax},
		{"carrier a 0 12\r\npart 0 0 1", 1, 13, api.ErrSyntax},
		{start + data + "\n\n part 0 0", 5, 2, api.ErrOrder},
		{start + data + "\nx", 4, 1, api.ErrSyntax},
		// a word that is not there
		{"carrier", 1, 8, api.ErrMissing},
		{"  carrier \t\n", 1, 10, api.ErrMissing},
		{"carrier a", 1, 10, api.ErrMissing},
		{"carrier a 0", 1, 12, api.ErrMissing},
		{"carrier a 0  \npart", 1, 12, api.ErrMissing},
		{"carrier a 0 12\npart", 2, 5, api.ErrMissing},
		{"carrier a 0 12\npart 0 0", 2, 9, api.ErrMissing},
		{start + "signal", 3, 7, api.ErrMissing},
		{start + "signal data 0 1 0 - 0 1 0 1 1", 3, 30, api.ErrMissing},
		// a word that is wrong
		{"carrier 9 x", 1, 9, api.ErrName},
		{"carrier a-b-c-d-e-f-g 0 12", 1, 9, api.ErrName},
		{"carrier a;b 0 12", 1, 9, api.ErrName},
		{"carrier a x 12", 1, 11, api.ErrSyntax},
		{"carrier a x", 1, 11, api.ErrSyntax},
		{"carrier a - 12", 1, 11, api.ErrSyntax},
		{"carrier a -1 12", 1, 11, api.ErrSyntax},
		{"carrier a -0 12", 1, 11, api.ErrSyntax},
		{"carrier a +1 12", 1, 11, api.ErrSyntax},
		{"carrier a 00 12", 1, 11, api.ErrSyntax},
		{"carrier a 012 12", 1, 11, api.ErrSyntax},
		{"carrier a 0 100000", 1, 13, api.ErrSyntax},
		{"carrier a 0 1_2", 1, 13, api.ErrSyntax},
		{"carrier a 0 0x1", 1, 13, api.ErrSyntax},
		{"carrier a 0 \u0661", 1, 13, api.ErrSyntax},
		{"carrier a 0 12\npart 0 0 -", 2, 10, api.ErrSyntax},
		{start + "signal x", 3, 8, api.ErrKind},
		{start + "signal Data y", 3, 8, api.ErrKind},
		{start + "signal data - 1 0 - 0 1 0 1 1 0", 3, 13, api.ErrSyntax},
		{start + "signal data 0 - 0 - 0 1 0 1 1 0", 3, 15, api.ErrSyntax},
		{start + "signal data 0 1 0 -- 0 1 0 1 1 0", 3, 19, api.ErrSyntax},
		{start + "signal data 0 1 0 -1 0 1 0 1 1 0", 3, 19, api.ErrSyntax},
		{start + "signal data 0 1 0 - - 1 0 1 1 0", 3, 21, api.ErrSyntax},
		// a word too many
		{"carrier a 0 12 x", 1, 16, api.ErrSyntax},
		{"carrier a 0 12\npart 0 0 1  1 1", 2, 13, api.ErrSyntax},
		{start + data + " 0", 3, 33, api.ErrSyntax},
		// the first line with an error
		{"carrier a 0 12 x\ny", 1, 16, api.ErrSyntax},
		{"carrier a 0 12\npart 9 0 1\npart 0 0", 3, 9, api.ErrMissing},
	} {
		c, m, e := grid.Parse(x.text)
		expect(t, "Parse of "+x.text, m, e, api.TextMark{Line: x.line, Column: x.column}, x.e)
		expect(t, "the carrier of "+x.text, c, 0, api.GridCarrier{}, 0)
	}
}

func TestErrorsOfWholeTexts(t *testing.T) {
	for _, x := range []struct {
		text         string
		line, column int
		e            api.Errno
	}{
		// nothing there
		{"", 1, 1, api.ErrMissing},
		{" \t", 2, 1, api.ErrMissing},
		{"\n", 2, 1, api.ErrMissing},
		{"\n\n ", 4, 1, api.ErrMissing},
		// the errors of CheckCarrier
		{"\n  carrier a 0 12\n", 2, 1, api.ErrShape},
		{"\ncarrier a 1008 12", 2, 1, api.ErrRange},
		{"carrier a 0 12\nsignal data 0 1 0 - 0 1 0 1 1 0", 1, 1, api.ErrShape},
		{"carrier a 0 12\n part 0 0 2", 2, 1, api.ErrBreak},
		{"carrier a 0 12\npart 0 0 1\n\n part 4 0 1", 4, 1, api.ErrRange},
		{"carrier a 0 12\npart 0 0 1\n\nsignal data 1 1 0 - 0 1 0 1 1 0", 4, 1, api.ErrMissing},
		{"carrier a 0 12\npart 0 0 1\nsignal data 0 1 0 - 0 1 0 1 1 0\n\n\tsignal data 0 3 0 - 0 1 0 1 1 0", 5, 1, api.ErrForm},
		{"\ncarrier a 0 12\npart 0 0 1" + strings.Repeat("\npart 0 0 1", 4), 2, 1, api.ErrLarge},
		{"\ncarrier a 0 12\npart 0 0 1" + strings.Repeat("\nsignal data 0 1 0 - 0 1 0 1 1 0", 13), 2, 1, api.ErrLarge},
		// too long
		{strings.Repeat(" ", 60000), 2, 1, api.ErrMissing},
		{strings.Repeat(" ", 60001), 0, 0, api.ErrLarge},
		{strings.Repeat("x", 60001), 0, 0, api.ErrLarge},
		{strings.Repeat("\n", 60000), 60001, 1, api.ErrMissing},
	} {
		c, m, e := grid.Parse(x.text)
		expect(t, "Parse of "+x.text[:min(len(x.text), 60)], m, e, api.TextMark{Line: x.line, Column: x.column}, x.e)
		expect(t, "the carrier", c, 0, api.GridCarrier{}, 0)
	}
	long := exampleText + strings.Repeat(" ", 60000-len(exampleText))
	c, _, e := grid.Parse(long)
	expect(t, "Parse of 60000 bytes", c, e, example(), api.OK)
	c, _, e = grid.Parse(long + " ")
	expect(t, "Parse of 60001 bytes", c, e, api.GridCarrier{}, api.ErrLarge)
}

func TestOneLine(t *testing.T) {
	line := strings.ReplaceAll(strings.TrimSuffix(exampleText, "\n"), "\n", ";")
	expect(t, "FormatCarrier", grid.FormatCarrier(example()), 0, line, 0)
	expect(t, "FormatCarrier of a wrong carrier", grid.FormatCarrier(wrong()), 0, "", 0)
	for _, s := range []string{line, line + ";", "; ;" + line, strings.ReplaceAll(line, ";", " ; \t")} {
		c, e := grid.ParseCarrier(s)
		expect(t, "ParseCarrier", c, e, example(), api.OK)
	}
	for _, x := range []struct {
		s string
		e api.Errno
	}{
		{exampleText, api.ErrSyntax}, {line + "\n", api.ErrSyntax}, {"\n", api.ErrSyntax}, {"", api.ErrMissing}, {";", api.ErrMissing},
		{"carrier a 0 12", api.ErrShape}, {"carrier a 0", api.ErrMissing}, {"carrier a 0 12;part 0 0 1;signal x", api.ErrKind},
		{strings.Repeat(" ", 60001), api.ErrLarge}, {strings.Repeat(" ", 60001) + "\n", api.ErrSyntax},
		{"carrier a 0 12;part 0 0 1;signal data 0 1 0 - 0 1 0 1 1 0;part 0 0 1", api.ErrOrder},
	} {
		c, e := grid.ParseCarrier(x.s)
		expect(t, "ParseCarrier of "+x.s[:min(len(x.s), 60)], c, e, api.GridCarrier{}, x.e)
	}
}

// TestTextsOfRandomCarriers is P1.12.
func TestTextsOfRandomCarriers(t *testing.T) {
	r := rand.New(rand.NewSource(8))
	for range 200 {
		c := randomCarrier(r)
		s, e := grid.Print(c)
		d, _, f := grid.Parse(s)
		expect(t, "Print", 0, e, 0, api.OK)
		expect(t, "Parse of Print", d, f, c, api.OK)
		d, f = grid.ParseCarrier(grid.FormatCarrier(c))
		expect(t, "ParseCarrier of FormatCarrier", d, f, c, api.OK)
	}
}
