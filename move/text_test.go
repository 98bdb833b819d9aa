package move_test

import (
	"fmt"
	"math"
	"math/rand"
	"strings"
	"testing"

	"downtilt/api"
	"downtilt/move"
)

// eventTexts is a text of each kind, in the order of the kinds.
func eventTexts() []string {
	return []string{"data 1", "send 2", "ack 3", "prepare 4 1", "cancel 5", "command 6", "complete 7", "forward 8", "switch 9", "fail 10", "recover 11 2", "pass 12"}
}

func TestTextsOfEvents(t *testing.T) {
	for kind, text := range eventTexts() {
		e := api.MoveEvent{Kind: kind, At: kind + 1}
		switch kind {
		case api.MovePrepare:
			e.Cell = 1
		case api.MoveRecover:
			e.Cell = 2
		}
		if s := move.FormatEvent(e); s != text {
			t.Errorf("FormatEvent(%v): %q, want %q", e, s, text)
		}
		got, f := move.ParseEvent(text)
		expect(t, fmt.Sprintf("ParseEvent of %q", text), got, f, e, api.OK)
		if kind != api.MovePrepare && kind != api.MoveRecover {
			e.Cell = 3
			if s := move.FormatEvent(e); s != text {
				t.Errorf("FormatEvent(%v): %q, want %q", e, s, text)
			}
		}
	}
	for _, x := range []struct {
		e    api.MoveEvent
		want string
	}{
		{api.MoveEvent{}, "data 0"},
		{api.MoveEvent{Kind: api.MovePrepare}, "prepare 0 0"},
		{api.MoveEvent{Kind: api.MoveRecover, At: math.MinInt, Cell: math.MaxInt}, "recover -9223372036854775808 9223372036854775807"},
		{api.MoveEvent{Kind: -1, At: 1}, ""},
		{api.MoveEvent{Kind: 12, At: 1}, ""},
		{api.MoveEvent{Kind: math.MinInt}, ""},
		{api.MoveEvent{Kind: math.MaxInt}, ""},
	} {
		if s := move.FormatEvent(x.e); s != x.want {
			t.Errorf("FormatEvent(%v): %q, want %q", x.e, s, x.want)
		}
	}
	for _, x := range []struct {
		s    string
		want api.MoveEvent
	}{
		{"data 9999999999", api.MoveEvent{At: 9999999999}},
		{"data -9999999999", api.MoveEvent{At: -9999999999}},
		{"pass 0", api.MoveEvent{Kind: api.MovePass}},
		{"prepare -1 9999999999", api.MoveEvent{Kind: api.MovePrepare, At: -1, Cell: 9999999999}},
		{"recover 1000000000 -9999999999", api.MoveEvent{Kind: api.MoveRecover, At: 1000000000, Cell: -9999999999}},
	} {
		e, f := move.ParseEvent(x.s)
		expect(t, fmt.Sprintf("ParseEvent of %q", x.s), e, f, x.want, api.OK)
	}
}

// wrongNumbers are none in any text.
func wrongNumbers() []string {
	return []string{"", "-", "+1", "01", "00", "-0", "-00", "-01", "--1", "1-", "1.", "1e3", "0x1", "1_0", "a", "10000000000", "-10000000000", "00000000001", "9223372036854775808", strings.Repeat("9", 1000), "٣", "１", "1\x00", "\xff", "1\n", "\t1", "1;", "1,2"}
}

func TestWrongTextsOfEvents(t *testing.T) {
	texts := []string{
		"", " ", "  ", "data", "data ", "data  ", " data 1", "data  1", "data 1 ", "data 1 0", "data 1 0 0", "prepare", "prepare ", "prepare 4", "prepare 4 ", "prepare 4  1", "prepare  4 1", "prepare 4 1 ", "prepare 4 1 0", "recover 4", "recover 4 1 2", "pass 1 2", "pass", "fail 1 1",
		"1", "1 1", "0 1", "data1", "Data 1", "DATA 1", "datas 1", "dat 1", "none 1", "move 1", "data\t1", "data 1\n", "\ndata 1", "data,1", "data|1", "data 1|", "prepare 4,1", "prepare 4|1", "data 1|0", strings.Repeat("data ", 1<<20), "data" + strings.Repeat(" 1", 1<<20), strings.Repeat(" ", 1<<20),
	}
	for _, number := range wrongNumbers() {
		texts = append(texts, "prepare 4 "+number, "recover "+number+" 1")
		for _, s := range eventTexts() {
			words := strings.Split(s, " ")
			words[1] = number
			texts = append(texts, strings.Join(words, " "))
		}
	}
	for _, s := range texts {
		e, f := move.ParseEvent(s)
		expect(t, fmt.Sprintf("ParseEvent of %.60q", s), e, f, api.MoveEvent{}, api.ErrSyntax)
	}
}

func TestTextsOfStates(t *testing.T) {
	for _, x := range []struct {
		text string
		x    api.MoveState
	}{
		{"3 0 0 0 -1 -1 0 2 1|0 1||", api.MoveState{At: 3, Target: -1, Source: -1, Fresh: 2, Got: 1, Buffers: [][]int{{0, 1}, nil, nil}}}, // the example 5 of the chapter
		{"1 2 3 4 5 6 7 8 9|10|11 12|13", api.MoveState{At: 1, Phase: 2, Since: 3, Serving: 4, Target: 5, Source: 6, Path: 7, Fresh: 8, Got: 9, Buffers: [][]int{{10}, {11, 12}, {13}}}},
		{"0 0 0 0 0 0 0 0 0|", api.MoveState{Buffers: [][]int{nil}}},
		{"0 0 0 0 0 0 0 0 0||", api.MoveState{Buffers: [][]int{nil, nil}}},
		{"-1 -2 -3 -4 -5 -6 -7 -8 -9|-10 -11||-12", api.MoveState{At: -1, Phase: -2, Since: -3, Serving: -4, Target: -5, Source: -6, Path: -7, Fresh: -8, Got: -9, Buffers: [][]int{{-10, -11}, nil, {-12}}}},
		{"9999999999 -9999999999 0 0 0 0 0 0 0|9999999999 9999999999 -9999999999", api.MoveState{At: 9999999999, Phase: -9999999999, Buffers: [][]int{{9999999999, 9999999999, -9999999999}}}},
		{"0 0 0 0 0 0 0 0 0" + strings.Repeat("|", 2000), api.MoveState{Buffers: make([][]int, 2000)}},
		{"0 0 0 0 0 0 0 0 0|0" + strings.Repeat(" 0", 1999), api.MoveState{Buffers: [][]int{make([]int, 2000)}}},
	} {
		if s := move.FormatState(x.x); s != x.text {
			t.Errorf("FormatState(%v): %q, want %q", x.x, s, x.text)
		}
		got, e := move.ParseState(x.text)
		expect(t, fmt.Sprintf("ParseState of %.60q", x.text), got, e, x.x, api.OK)
		if len(got.Buffers) != len(x.x.Buffers) {
			t.Errorf("ParseState of %.60q: %d buffers", x.text, len(got.Buffers))
		}
	}
	for _, x := range []struct {
		x    api.MoveState
		want string
	}{
		{api.MoveState{}, "0 0 0 0 0 0 0 0 0"},
		{api.MoveState{Buffers: [][]int{}}, "0 0 0 0 0 0 0 0 0"},
		{api.MoveState{Buffers: [][]int{{}, {}}}, "0 0 0 0 0 0 0 0 0||"},
		{api.MoveState{At: math.MinInt, Phase: 77, Got: math.MaxInt, Buffers: [][]int{{math.MaxInt, math.MinInt}}}, "-9223372036854775808 77 0 0 0 0 0 0 9223372036854775807|9223372036854775807 -9223372036854775808"},
	} {
		if s := move.FormatState(x.x); s != x.want {
			t.Errorf("FormatState(%v): %q, want %q", x.x, s, x.want)
		}
	}
}

func TestWrongTextsOfStates(t *testing.T) {
	const head = "3 0 0 0 -1 -1 0 2 1"
	texts := []string{
		"", " ", "|", "||", head, head + " ", head + "\n", " " + head + "|", head + " |", head + "| ", head + "|0 ", head + "| 0", head + "|0  1", head + "|0 |", head + "|0| ", head + "||  ", head + "|0,1", head + "|0;1", head + "|0\t1", head + "|0\n", head + "|a", head + "|0|a", head + "|\n", head + "/0",
		"3 0 0 0 -1 -1 0 2|", "3 0 0 0 -1 -1 0 2|1", head + " 1|", "3  0 0 0 -1 -1 0 2 1|", "3 0 0 0 -1 -1 0  2 1|", "3|0 0 0 -1 -1 0 2 1|", "|" + head, "|" + head + "|", "3,0,0,0,-1,-1,0,2,1|", strings.Repeat("|", 1<<20), strings.Repeat(" ", 1<<20), head + strings.Repeat(" 1", 1<<20) + "|",
	}
	for _, number := range wrongNumbers() {
		for at := range 9 {
			numbers := strings.Split(head, " ")
			numbers[at] = number
			texts = append(texts, strings.Join(numbers, " ")+"|", strings.Join(numbers, " ")+"|0 1||")
		}
		texts = append(texts, head+"|0 "+number, head+"|"+number+" 0", head+"||0|0 1 "+number)
		if number != "" {
			texts = append(texts, head+"|"+number, head+"||"+number+"|")
		}
	}
	for _, s := range texts {
		x, e := move.ParseState(s)
		expect(t, fmt.Sprintf("ParseState of %.60q", s), x, e, api.MoveState{}, api.ErrSyntax)
	}
}

// TestParseUndoesFormat is P8.12.
func TestParseUndoesFormat(t *testing.T) {
	r := rand.New(rand.NewSource(94))
	for range 200 {
		n := randomNetwork(r)
		cell := r.Intn(len(n.Cells))
		x := must(move.Begin(n, cell))
		for _, e := range randomLog(r, n, cell) {
			again, f := move.ParseEvent(move.FormatEvent(e))
			expect(t, fmt.Sprint("ParseEvent ", e), again, f, e, api.OK)
			x = must(move.Apply(n, x, e))
			state, f := move.ParseState(move.FormatState(x))
			expect(t, fmt.Sprint("ParseState ", x), state, f, x, api.OK)
		}
		end := randomState(r, n)
		state, f := move.ParseState(move.FormatState(end))
		expect(t, fmt.Sprint("ParseState ", end), state, f, end, api.OK)
	}
	for kind := range api.MoveKinds {
		e := api.MoveEvent{Kind: kind, At: api.MaxTick}
		if kind == api.MovePrepare || kind == api.MoveRecover {
			e.Cell = 5
		}
		again, f := move.ParseEvent(move.FormatEvent(e))
		expect(t, fmt.Sprint("ParseEvent ", e), again, f, e, api.OK)
	}
}

// TestFormatUndoesParse is of texts that are accepted: each event, and each state, has one text only.
func TestFormatUndoesParse(t *testing.T) {
	r := rand.New(rand.NewSource(95))
	events, states := 0, 0
	for range 20000 {
		s := spoilText(r, eventTexts()[r.Intn(12)])
		if e, f := move.ParseEvent(s); f == api.OK {
			events++
			if back := move.FormatEvent(e); back != s {
				t.Errorf("%q is written again as %q", s, back)
			}
		}
		s = spoilText(r, "15 3 5 1 -1 0 0 4 2|2 3|0 1|")
		if x, f := move.ParseState(s); f == api.OK {
			states++
			if back := move.FormatState(x); back != s {
				t.Errorf("%q is written again as %q", s, back)
			}
		}
	}
	if events < 500 || states < 1000 {
		t.Errorf("%d events, %d states", events, states)
	}
}

func spoilText(r *rand.Rand, s string) string {
	for range 1 + r.Intn(2) {
		at := r.Intn(len(s))
		s = s[:at] + string("0159- +,|d\n"[r.Intn(11)]) + s[at+r.Intn(2):]
	}
	return s
}
