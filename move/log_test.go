package move_test

import (
	"fmt"
	"math/rand"
	"slices"
	"testing"

	"downtilt/api"
	"downtilt/move"
)

// TestLogExample is of the whole example 2 of the chapter.
func TestLogExample(t *testing.T) {
	n, l := exampleNetwork(), exampleLog()
	x, number, e := move.Replay(n, 0, l)
	expect(t, "Replay", x, e, stateOf("18 0 8 1 -1 -1 1 4 3||2 3|"), api.OK)
	expect(t, "number of Replay", number, e, 0, api.OK)
	got, e := move.Received(n, 0, l)
	expect(t, "Received", got, e, []int{0, 1, 2}, api.OK)
	stays, e := move.Stays(n, 0, l)
	expect(t, "Stays", stays, e, staysOf(0, 0, 8, 1, 8, 18), api.OK)
	outage, e := move.LongestOutage(n, 0, l)
	expect(t, "LongestOutage", outage, e, 3, api.OK)
	l = slices.Insert(l, 15, eventOf("send 16"))
	x, number, e = move.Replay(n, 0, l)
	expect(t, "refused Replay", x, e, api.MoveState{}, api.ErrGap)
	expect(t, "number of the refused event", number, e, 15, api.ErrGap)
}

// TestLogs is of logs of the examples' network that begin in its cell 0.
func TestLogs(t *testing.T) {
	for _, x := range []struct {
		texts  []string
		got    []int
		stays  []api.MoveStay
		outage int
	}{
		{nil, nil, staysOf(0, 0, 0), 0},
		{[]string{"pass 30"}, nil, staysOf(0, 0, 30), 0},
		{[]string{"data 1", "send 1", "send 2", "ack 3", "data 4", "send 5", "pass 9"}, []int{0, 1}, staysOf(0, 0, 9), 0},
		{[]string{"prepare 4 1", "command 5", "pass 9"}, nil, staysOf(0, 0, 9), 4}, // it goes on
		{[]string{"prepare 4 1", "command 5", "complete 5", "pass 9"}, nil, staysOf(0, 0, 5, 1, 5, 9), 0},
		{[]string{"prepare 4 1", "command 5", "complete 7"}, nil, staysOf(0, 0, 7, 1, 7, 7), 2},
		{[]string{"prepare 4 1", "command 5", "fail 7", "recover 9 1", "pass 12"}, nil, staysOf(0, 0, 9, 1, 9, 12), 4}, // from the command on
		{[]string{"prepare 4 1", "command 5", "fail 7", "recover 9 0", "pass 12"}, nil, staysOf(0, 0, 12), 4},          // its stay goes on
		{[]string{"prepare 4 1", "fail 7", "recover 9 1", "pass 12"}, nil, staysOf(0, 0, 9, 1, 9, 12), 2},
		{[]string{"fail 7", "pass 200"}, nil, staysOf(0, 0, 200), 100}, // by the cell that served it
		{[]string{"fail 7", "pass 100"}, nil, staysOf(0, 0, 100), 93},
		{[]string{"prepare 4 1", "command 5", "complete 6", "fail 7", "pass 200"}, nil, staysOf(0, 0, 6, 1, 6, 107, 0, 107, 200), 100},
		{[]string{"prepare 4 1", "command 5", "complete 6", "fail 7", "fail 200"}, nil, staysOf(0, 0, 6, 1, 6, 107, 0, 107, 200), 100},
		{[]string{"prepare 4 1", "command 5", "complete 6", "fail 7", "pass 107", "pass 108"}, nil, staysOf(0, 0, 6, 1, 6, 107, 0, 107, 108), 100},
		{[]string{"prepare 4 1", "command 5", "complete 6", "fail 7", "prepare 200 1", "command 200", "complete 200"}, nil, staysOf(0, 0, 6, 1, 6, 107, 0, 107, 200, 1, 200, 200), 100},
		{[]string{"fail 7", "recover 9 0", "fail 10", "recover 30 0", "fail 31", "recover 40 0"}, nil, staysOf(0, 0, 40), 20},
		{[]string{"fail 7", "recover 27 0", "fail 30", "recover 40 0", "fail 41", "pass 60"}, nil, staysOf(0, 0, 60), 20},
		{[]string{"fail 7", "recover 9 0", "fail 10", "pass 30"}, nil, staysOf(0, 0, 30), 20},
		{[]string{"prepare 9 1", "command 9", "complete 9", "switch 9", "prepare 9 2", "command 9", "complete 9", "pass 11"}, nil, staysOf(0, 0, 9, 1, 9, 9, 2, 9, 11), 0}, // a stay of no ticks
		{[]string{"data 1", "data 1", "send 2", "prepare 4 1", "command 5", "fail 6", "pass 300", "send 301", "ack 302"}, []int{0, 1}, staysOf(0, 0, 302), 100},
	} {
		n, l := exampleNetwork(), logOf(x.texts...)
		got, e := move.Received(n, 0, l)
		expect(t, fmt.Sprint("Received ", x.texts), got, e, x.got, api.OK)
		stays, e := move.Stays(n, 0, l)
		expect(t, fmt.Sprint("Stays ", x.texts), stays, e, x.stays, api.OK)
		outage, e := move.LongestOutage(n, 0, l)
		expect(t, fmt.Sprint("LongestOutage ", x.texts), outage, e, x.outage, api.OK)
	}
	stays, e := move.Stays(exampleNetwork(), 2, logOf("fail 10", "pass 120"))
	expect(t, "Stays from the cell 2", stays, e, staysOf(2, 0, 110, 0, 110, 120), api.OK)
}

// TestLogsSlowly compares logs with a slow phone.
func TestLogsSlowly(t *testing.T) {
	r := rand.New(rand.NewSource(87))
	received, moved, out := 0, 0, 0
	for range 600 {
		n := randomNetwork(r)
		cell := r.Intn(len(n.Cells))
		l := randomLog(r, n, cell)
		s := slowBegin(n, cell)
		for _, e := range l {
			s, _ = s.step(e)
		}
		what := fmt.Sprint(n, " ", cell, " ", l)
		x, number, e := move.Replay(n, cell, l)
		expect(t, "Replay "+what, x, e, s.state(), api.OK)
		expect(t, "number of Replay "+what, number, e, 0, api.OK)
		got, e := move.Received(n, cell, l)
		expect(t, "Received "+what, got, e, s.took, api.OK)
		wantStays, wantOutage := s.ended()
		stays, e := move.Stays(n, cell, l)
		expect(t, "Stays "+what, stays, e, wantStays, api.OK)
		outage, e := move.LongestOutage(n, cell, l)
		expect(t, "LongestOutage "+what, outage, e, wantOutage, api.OK)
		received, moved, out = received+len(got), moved+len(stays), out+min(1, outage)
	}
	if received < 1500 || moved < 1000 || out < 200 {
		t.Errorf("%d received, %d stays, %d outages", received, moved, out)
	}
}

// slowPingPongs goes through all stays with one before and one behind.
func slowPingPongs(l []api.MoveStay, within int) int {
	count := 0
	for len(l) >= 3 {
		before, stay, behind := l[0], l[1], l[2]
		if before.Cell == behind.Cell && stay.To <= stay.From+within {
			count++
		}
		l = l[1:]
	}
	return count
}

func TestPingPongs(t *testing.T) {
	example := staysOf(0, 0, 10, 1, 10, 14, 0, 14, 30)
	many := make([]api.MoveStay, 200)
	for i := range many {
		many[i] = api.MoveStay{Cell: i % 2, From: 10 * i, To: 10*i + 10}
	}
	const end = api.MaxTick
	for _, x := range []struct {
		l      []api.MoveStay
		within int
		want   int
	}{
		{example, 4, 1}, // the example 6 of the chapter
		{example, 3, 0},
		{example, end, 1},
		{nil, 4, 0},
		{example[:1], 100, 0},
		{example[:2], 100, 0},
		{staysOf(0, 0, 10, 1, 10, 14, 2, 14, 30), 4, 0},
		{staysOf(0, 0, 10, 1, 10, 10, 0, 10, 10, 1, 10, 10), 0, 2}, // of no ticks
		{staysOf(0, 5, 6, 1, 6, 8, 0, 8, 12, 1, 12, 15, 2, 15, 16, 1, 16, 17), 2, 2},
		{staysOf(0, 5, 6, 1, 6, 8, 0, 8, 12, 1, 12, 15, 2, 15, 16, 1, 16, 17), 4, 3},
		{staysOf(0, 5, 6, 1, 6, 8, 0, 8, 12, 1, 12, 15, 2, 15, 16, 1, 16, 17), 0, 0},
		{staysOf(0, 0, 0, 1, 0, end, 0, end, end), end, 1},
		{staysOf(0, 0, 0, 1, 0, end, 0, end, end), end - 1, 0},
		{many, 10, 198},
		{many, 9, 0},
	} {
		got, e := move.PingPongs(exampleNetwork(), x.l, x.within)
		expect(t, fmt.Sprint("PingPongs ", x.l, x.within), got, e, x.want, api.OK)
	}
	r := rand.New(rand.NewSource(88))
	seen := 0
	for range 5000 {
		n := randomNetwork(r)
		l, within := randomStays(r, n), r.Intn(6)
		got, e := move.PingPongs(n, l, within)
		expect(t, fmt.Sprint("PingPongs ", l, within), got, e, slowPingPongs(l, within), api.OK)
		seen += got
	}
	if seen < 5000 {
		t.Errorf("%d ping-pongs", seen)
	}
}

// TestStaysGoTogether gives the stays of logs to PingPongs.
func TestStaysGoTogether(t *testing.T) {
	r := rand.New(rand.NewSource(89))
	seen := 0
	for range 1000 {
		n := randomNetwork(r)
		cell := r.Intn(len(n.Cells))
		stays := must(move.Stays(n, cell, randomLog(r, n, cell)))
		count, e := move.PingPongs(n, stays, 3)
		expect(t, fmt.Sprint("PingPongs ", stays), count, e, slowPingPongs(stays, 3), api.OK)
		seen += count
	}
	if seen < 50 {
		t.Errorf("%d ping-pongs", seen)
	}
}

// TestOnceAndInOrder is P8.7, behind beginnings of logs.
func TestOnceAndInOrder(t *testing.T) {
	r := rand.New(rand.NewSource(90))
	late := 0
	for range 300 {
		n := randomNetwork(r)
		cell := r.Intn(len(n.Cells))
		l := randomLog(r, n, cell)
		for range 5 {
			l := l[:r.Intn(len(l)+1)]
			x, _, e := move.Replay(n, cell, l)
			expect(t, "Replay", e, e, api.OK, api.OK)
			var taken, left []int
			for number := range x.Fresh {
				if number < x.Got {
					taken = append(taken, number)
				} else {
					left = append(left, number)
				}
			}
			got, e := move.Received(n, cell, l)
			expect(t, "Received", got, e, taken, api.OK)
			waiting, e := move.Waiting(n, x)
			expect(t, "Waiting", waiting, e, left, api.OK)
			held := slices.Concat(x.Buffers...)
			for _, number := range left { // none is lost
				if !slices.Contains(held, number) {
					t.Errorf("no cell has %d: %v", number, x)
				}
			}
			late += len(left)
		}
	}
	if late < 2000 {
		t.Errorf("%d packets waited", late)
	}
}

// TestConnectedAgain is P8.8, behind each event of logs.
func TestConnectedAgain(t *testing.T) {
	r := rand.New(rand.NewSource(91))
	out, longest := 0, 0
	for range 600 {
		n := randomNetwork(r)
		cell := r.Intn(len(n.Cells))
		l := randomLog(r, n, cell)
		x := must(move.Begin(n, cell))
		for _, event := range l {
			x = must(move.Apply(n, x, event))
			due, e := move.DueOf(n, x)
			if x.Phase < api.MoveMoving {
				expect(t, "DueOf", due, e, 0, api.ErrNone)
				continue
			}
			out++
			if e != api.OK || due <= x.At {
				t.Errorf("DueOf %v: %d, error %d", x, due, e)
			}
			before := must(move.Apply(n, x, api.MoveEvent{Kind: api.MovePass, At: due - 1}))
			then := must(move.Apply(n, x, api.MoveEvent{Kind: api.MovePass, At: due}))
			if before.Phase != x.Phase || then.Phase != api.MoveConnected || then.Serving != 0 || then.Since != due {
				t.Errorf("%v is due at %d: %v, %v", x, due, before, then)
			}
		}
		outage := must(move.LongestOutage(n, cell, l))
		if outage > n.Limit {
			t.Errorf("an outage of %d, the limit %d", outage, n.Limit)
		}
		if outage == n.Limit {
			longest++
		}
	}
	if out < 2000 || longest < 50 {
		t.Errorf("%d times out, %d times up to the limit", out, longest)
	}
}

// TestRightBehindEachEvent is P8.9.
func TestRightBehindEachEvent(t *testing.T) {
	r := rand.New(rand.NewSource(92))
	for range 500 {
		n := randomNetwork(r)
		cell := r.Intn(len(n.Cells))
		x := must(move.Begin(n, cell))
		for _, event := range randomLog(r, n, cell) {
			e := move.CheckState(n, x)
			expect(t, fmt.Sprint("CheckState ", n, " ", move.FormatState(x)), e, e, api.OK, api.OK)
			x = must(move.Apply(n, x, event))
		}
		e := move.CheckState(n, x)
		expect(t, fmt.Sprint("CheckState ", n, " ", move.FormatState(x)), e, e, api.OK, api.OK)
	}
}

// TestHoweverTimeIsTold is P8.10.
func TestHoweverTimeIsTold(t *testing.T) {
	r := rand.New(rand.NewSource(93))
	for range 300 {
		n := randomNetwork(r)
		cell := r.Intn(len(n.Cells))
		l := randomLog(r, n, cell)
		x, y := must(move.Begin(n, cell)), must(move.Begin(n, cell))
		for _, event := range l {
			for range r.Intn(3) {
				y = must(move.Apply(n, y, api.MoveEvent{Kind: api.MovePass, At: y.At + r.Intn(event.At-y.At+1)}))
			}
			x, y = must(move.Apply(n, x, event)), must(move.Apply(n, y, event))
			expect(t, fmt.Sprint(event, " of ", l), y, api.OK, x, api.OK)
		}
		later := must(move.Apply(n, y, api.MoveEvent{Kind: api.MovePass, At: y.At}))
		expect(t, "pass at the same time", later, api.OK, x, api.OK)
	}
}
