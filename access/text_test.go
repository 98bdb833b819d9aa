package access_test

import (
	"fmt"
	"math"
	"math/rand"
	"strings"
	"testing"

	"downtilt/access"
	"downtilt/api"
)

func TestFormatEvent(t *testing.T) {
	for _, x := range []struct {
		e    api.AccessEvent
		want string
	}{
		{send(5, 0, 1), "send 5 0 1"},
		{answer(8, 1, 5), "answer 8 1 5"},
		{resolve(9, 0, 1), "resolve 9 0 1"},
		{release(20, 1), "release 20 1"},
		{pass(26), "pass 26"},
		{api.AccessEvent{Kind: api.AccessSend, At: 1, Phone: 2, Preamble: 3, Sent: 4, Identity: 5}, "send 1 2 3"},
		{api.AccessEvent{Kind: api.AccessAnswer, At: 1, Phone: 2, Preamble: 3, Sent: 4, Identity: 5}, "answer 1 3 4"},
		{api.AccessEvent{Kind: api.AccessResolve, At: 1, Phone: 2, Preamble: 3, Sent: 4, Identity: 5}, "resolve 1 5 2"},
		{api.AccessEvent{Kind: api.AccessRelease, At: 1, Phone: 2, Preamble: 3, Sent: 4, Identity: 5}, "release 1 2"},
		{api.AccessEvent{Kind: api.AccessPass, At: 1, Phone: 2, Preamble: 3, Sent: 4, Identity: 5}, "pass 1"},
		{api.AccessEvent{}, "send 0 0 0"},
		{answer(-1, math.MinInt, math.MaxInt), "answer -1 -9223372036854775808 9223372036854775807"},
		{api.AccessEvent{Kind: -1, At: 1}, ""},
		{api.AccessEvent{Kind: 5, At: 1}, ""},
		{api.AccessEvent{Kind: math.MinInt}, ""},
		{api.AccessEvent{Kind: math.MaxInt}, ""},
	} {
		if s := access.FormatEvent(x.e); s != x.want {
			t.Errorf("FormatEvent(%v): %q, want %q", x.e, s, x.want)
		}
	}
}

func TestParseEvent(t *testing.T) {
	for _, x := range []struct {
		s    string
		want api.AccessEvent
	}{
		{"send 5 0 1", send(5, 0, 1)},
		{"answer 8 1 5", answer(8, 1, 5)},
		{"resolve 9 0 1", resolve(9, 0, 1)},
		{"release 20 1", release(20, 1)},
		{"pass 26", pass(26)},
		{"send 9999999999 1000000000 9999999999", send(9999999999, 1000000000, 9999999999)},
		{"answer 0 9999999999 1", answer(0, 9999999999, 1)},
		{"resolve 0 9999999999 10", resolve(0, 9999999999, 10)},
		{"release 0 9999999999", release(0, 9999999999)},
		{"pass 0", pass(0)},
	} {
		e, f := access.ParseEvent(x.s)
		expect(t, fmt.Sprintf("ParseEvent of %q", x.s), e, f, x.want, api.OK)
	}
}

// wrongNumbers are none in any text.
func wrongNumbers() []string {
	return []string{"", "-", "+1", "01", "00", "-0", "-00", "-01", "--1", "1-", "1.", "1e3", "0x1", "1_0", "a", "10000000000", "-10000000000", "00000000001", "9223372036854775808", strings.Repeat("9", 1000), "٣", "１", "1\x00", "\xff", "1\n", "\t1", "1;"}
}

func TestParseWrongEvents(t *testing.T) {
	texts := []string{
		"", " ", "send", "send ", "pass", "pass ", "send 5", "send 5 0", "send 5 0 1 2", "send 5 0 1 ", " send 5 0 1", "send  5 0 1", "send 5  0 1", "send 5 0  1", "send 5 0 ", "send  5 0",
		"answer 8 1", "answer 8 1 5 0", "resolve 9 0", "resolve 9 0 1 0", "release 20", "release 20 1 0", "release 20 ", "pass 26 0", "pass 26 ", "pass  26", "5", "5 0 1", "26",
		"Send 5 0 1", "SEND 5 0 1", "sends 5 0 1", "sen 5 0 1", "wait 26", " 26", "0 26", "send\t5 0 1", "send 5 0 1\n", "send,5,0,1", "send 5,0,1", "none 5 0 1", "4 26",
		strings.Repeat(" ", 3), strings.Repeat("send ", 1<<20), "send" + strings.Repeat(" 1", 1<<20), "pass 26 0 0 0", "pass 26 0 0 0 0", "send 5 0 1 0 0",
	}
	right := []string{"send 5 0 1", "answer 8 1 5", "resolve 9 0 1", "release 20 1", "pass 26"}
	for _, number := range append(wrongNumbers(), "-1", "-5", "-9999999999") {
		for _, s := range right {
			for at := range strings.Count(s, " ") {
				words := strings.Split(s, " ")
				words[1+at] = number
				texts = append(texts, strings.Join(words, " "))
			}
		}
	}
	for _, s := range texts {
		e, f := access.ParseEvent(s)
		expect(t, fmt.Sprintf("ParseEvent of %.60q", s), e, f, api.AccessEvent{}, api.ErrSyntax)
	}
}

func TestFormatState(t *testing.T) {
	p := api.AccessPhone{Stage: 1, Preamble: 2, Sent: 3, Identity: 4, Until: 5, Tries: 6, Draw: 7}
	for _, x := range []struct {
		s    api.AccessState
		want string
	}{
		{must(access.Begin(exampleRules(), []int{1, 2})), "0 0,-1,0,-1,0,0,1 0,-1,0,-1,0,0,2"},
		{stateOf(9, p), "9 1,2,3,4,5,6,7"},
		{stateOf(-20, p, p), "-20 1,2,3,4,5,6,7 1,2,3,4,5,6,7"},
		{stateOf(15, waiting(1, 15, 25, 2, 48272), done(0, 2)), "15 1,1,15,-1,25,2,48272 4,-1,0,0,0,0,2"},
		{api.AccessState{}, "0"},
		{stateOf(math.MinInt), "-9223372036854775808"},
		{stateOf(0, api.AccessPhone{Stage: -7, Draw: math.MaxInt}), "0 -7,0,0,0,0,0,9223372036854775807"},
		{api.AccessState{At: 1, Phones: make([]api.AccessPhone, 20)}, "1" + strings.Repeat(" 0,0,0,0,0,0,0", 20)},
	} {
		if s := access.FormatState(x.s); s != x.want {
			t.Errorf("FormatState(%v): %q, want %q", x.s, s, x.want)
		}
	}
}

func TestParseState(t *testing.T) {
	for _, x := range []struct {
		s    string
		want api.AccessState
	}{
		{"0 0,-1,0,-1,0,0,1 0,-1,0,-1,0,0,2", stateOf(0, idle(1), idle(2))},
		{"9 1,2,3,4,5,6,7", stateOf(9, api.AccessPhone{Stage: 1, Preamble: 2, Sent: 3, Identity: 4, Until: 5, Tries: 6, Draw: 7})},
		{"0", api.AccessState{}},
		{"9999999999", stateOf(9999999999)},
		{"-9999999999 -9999999999,9999999999,-1,10,-10,0,1000000000", stateOf(-9999999999, api.AccessPhone{Stage: -9999999999, Preamble: 9999999999, Sent: -1, Identity: 10, Until: -10, Draw: 1000000000})},
		{"1" + strings.Repeat(" 0,0,0,0,0,0,0", 2000), api.AccessState{At: 1, Phones: make([]api.AccessPhone, 2000)}},
	} {
		s, e := access.ParseState(x.s)
		expect(t, fmt.Sprintf("ParseState of %.60q", x.s), s, e, x.want, api.OK)
	}
}

func TestParseWrongStates(t *testing.T) {
	const phone = "0,-1,0,-1,0,0,1"
	texts := []string{
		"", " ", "  ", phone, " " + phone, "0 ", " 0", "0  " + phone, "0 " + phone + " ", " 0 " + phone, "0 " + phone + "  " + phone, "0\t" + phone, "0 " + phone + "\n", "0," + phone, "0 " + phone + "," + phone,
		"0 0,-1,0,-1,0,0", "0 0,-1,0,-1,0,0,1,2", "0 0,-1,0,-1,0,0,1,", "0 ,0,-1,0,-1,0,0,1", "0 0,-1,,0,-1,0,0,1", "0 0, -1,0,-1,0,0,1", "0 0,-1,0,-1,0,0,1 5", "0 5", "0 5 " + phone, "0 0 -1 0 -1 0 0 1", "0 0;-1;0;-1;0;0;1",
		"0 " + strings.Repeat(",", 6), "0 " + strings.Repeat(",", 1<<20), "0" + strings.Repeat(" ", 1<<20), "0 " + phone + strings.Repeat(",1", 1<<20),
	}
	for _, number := range wrongNumbers() {
		texts = append(texts, number, number+" "+phone)
		for at := range 7 {
			numbers := strings.Split(phone, ",")
			numbers[at] = number
			texts = append(texts, "0 "+strings.Join(numbers, ","), "0 "+phone+" "+strings.Join(numbers, ","))
		}
	}
	for _, s := range texts {
		state, e := access.ParseState(s)
		expect(t, fmt.Sprintf("ParseState of %.60q", s), state, e, api.AccessState{}, api.ErrSyntax)
	}
}

// TestParseUndoesFormat is P7.13.
func TestParseUndoesFormat(t *testing.T) {
	r := rand.New(rand.NewSource(82))
	for range 1000 {
		k, draws := randomRules(r), randomDraws(r)
		s := must(access.Begin(k, draws))
		for _, e := range randomLog(r, k, draws) {
			again, f := access.ParseEvent(access.FormatEvent(e))
			expect(t, fmt.Sprint("ParseEvent ", e), again, f, e, api.OK)
			s = must(access.Apply(k, s, e))
			state, f := access.ParseState(access.FormatState(s))
			expect(t, fmt.Sprint("ParseState ", s), state, f, s, api.OK)
		}
	}
	const end = api.MaxTick
	for _, e := range []api.AccessEvent{send(end, 7, 7), answer(end, 7, end), resolve(end, 15, 7), release(end, 7), pass(end)} {
		again, f := access.ParseEvent(access.FormatEvent(e))
		expect(t, fmt.Sprint("ParseEvent ", e), again, f, e, api.OK)
	}
	s := stateOf(end, waiting(7, end, end+100, 10, 998244352), back(end+1000, 9, 0))
	state, f := access.ParseState(access.FormatState(s))
	expect(t, fmt.Sprint("ParseState ", s), state, f, s, api.OK)
}

// TestFormatUndoesParse is of texts that are accepted: each event, and each state, has one text only.
func TestFormatUndoesParse(t *testing.T) {
	r := rand.New(rand.NewSource(83))
	events, states := 0, 0
	for range 20000 {
		s := spoilText(r, []string{"send 5 0 1", "answer 8 1 5", "resolve 9 0 1", "release 20 1", "pass 26"}[r.Intn(5)])
		if e, f := access.ParseEvent(s); f == api.OK {
			events++
			if back := access.FormatEvent(e); back != s {
				t.Errorf("%q is written again as %q", s, back)
			}
		}
		s = spoilText(r, "0 0,-1,0,-1,0,0,1 1,1,15,-1,25,2,48272")
		if state, f := access.ParseState(s); f == api.OK {
			states++
			if back := access.FormatState(state); back != s {
				t.Errorf("%q is written again as %q", s, back)
			}
		}
	}
	if events < 1000 || states < 1000 {
		t.Errorf("%d events, %d states", events, states)
	}
}

func spoilText(r *rand.Rand, s string) string {
	for range 1 + r.Intn(2) {
		at := r.Intn(len(s))
		s = s[:at] + string("0159- +,ps\n"[r.Intn(11)]) + s[at+r.Intn(2):]
	}
	return s
}
