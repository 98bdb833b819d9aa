package move_test

import (
	"fmt"
	"math/rand"
	"slices"
	"testing"

	"downtilt/api"
	"downtilt/move"
)

// around is levels so much above those of a serving cell with the level -900, and those.
func around(ahead ...int) ([]int, []int) {
	var serving, neighbour []int
	for _, n := range ahead {
		serving, neighbour = append(serving, -900), append(neighbour, -900+n)
	}
	return serving, neighbour
}

// expectTriggers compares all ticks, and the first one.
func expectTriggers(t *testing.T, r api.MoveRule, serving, neighbour, want []int) {
	t.Helper()
	what := fmt.Sprint(r, serving, neighbour)
	ticks, e := move.Triggers(r, serving, neighbour)
	expect(t, "Triggers "+what, ticks, e, want, api.OK)
	first, e := move.FirstTrigger(r, serving, neighbour)
	if len(want) == 0 {
		expect(t, "FirstTrigger "+what, first, e, 0, api.ErrNone)
	} else {
		expect(t, "FirstTrigger "+what, first, e, want[0], api.OK)
	}
}

// TestTriggersExample is the example 1 of the chapter.
func TestTriggersExample(t *testing.T) {
	serving := []int{-900, -900, -900, -900, -900}
	neighbour := []int{-870, -855, -850, -855, -840}
	expectTriggers(t, api.MoveRule{Offset: 30, Hyst: 10, Trigger: 2}, serving, neighbour, []int{3})
}

func TestTriggers(t *testing.T) {
	long := make([]int, 60)
	for i := range long {
		long[i] = 41
	}
	for _, x := range []struct {
		r     api.MoveRule
		ahead []int
		want  []int
	}{
		{api.MoveRule{Offset: 30, Hyst: 10}, nil, nil},
		{api.MoveRule{Offset: 30, Hyst: 10}, []int{41}, []int{0}}, // as soon as it is better
		{api.MoveRule{Offset: 30, Hyst: 10}, []int{40}, nil},
		{api.MoveRule{Offset: 30, Hyst: 10}, []int{0, 40, 41, 42}, []int{2}},
		{api.MoveRule{Offset: 30, Hyst: 10}, []int{41, 40, 41, 20, 41, 19, 41, 41}, []int{0, 6}}, // 20 is not over, 19 is
		{api.MoveRule{Offset: 30, Hyst: 10}, []int{41, 19, 19, 41, 19, 25, 41}, []int{0, 3, 6}},
		{api.MoveRule{Offset: 30, Hyst: 10, Trigger: 1}, []int{41, 19, 41, 41, 41}, []int{3}},
		{api.MoveRule{Offset: 30, Hyst: 10, Trigger: 1}, []int{41, 41, 41, 19, 41, 40, 41, 41}, []int{1, 7}},
		{api.MoveRule{Offset: 30, Hyst: 10, Trigger: 1}, []int{41, 40, 41, 40, 41}, nil},
		{api.MoveRule{Offset: 30, Hyst: 10, Trigger: 2}, []int{41, 41}, nil}, // there are not so many ticks before
		{api.MoveRule{Offset: 30, Hyst: 10, Trigger: 2}, []int{41, 41, 41}, []int{2}},
		{api.MoveRule{Offset: 30, Hyst: 10, Trigger: 40}, long, []int{40}},
		{api.MoveRule{Offset: 30, Hyst: 10, Trigger: 40}, long[:40], nil},
		{api.MoveRule{Offset: 30, Hyst: 10, Trigger: 40}, long[:41], []int{40}},
		{api.MoveRule{Offset: -30, Hyst: 10}, []int{-20, -19, -40, -19, -41, -19}, []int{1, 5}},
		{api.MoveRule{Offset: -300}, []int{-300, -299, -300, -299, -301, -299}, []int{1, 5}}, // without Hyst: neither at the Offset
		{api.MoveRule{Offset: 300, Hyst: 300}, []int{600, 601, 0, 601, -1, 601}, []int{1, 5}},
		{api.MoveRule{}, []int{0, 1, 0, 1, -1, 1}, []int{1, 5}},
	} {
		serving, neighbour := around(x.ahead...)
		expectTriggers(t, x.r, serving, neighbour, x.want)
	}
	expectTriggers(t, api.MoveRule{Offset: 300, Hyst: 300}, []int{-2000, 1000}, []int{1000, -2000}, []int{0})
	expectTriggers(t, api.MoveRule{Offset: -300}, []int{1000, 1000, 0}, []int{701, 700, 1}, []int{0})
}

// slowTriggers looks back from each tick.
func slowTriggers(r api.MoveRule, serving, neighbour []int) []int {
	isBetter := func(tick int) bool {
		return tick >= 0 && neighbour[tick] > serving[tick]+r.Offset+r.Hyst
	}
	isOver := func(tick int) bool {
		return neighbour[tick] < serving[tick]+r.Offset-r.Hyst
	}
	var ticks []int
	for tick := range serving {
		triggers := true
		for before := range r.Trigger + 1 {
			triggers = triggers && isBetter(tick-before)
		}
		if n := len(ticks); n > 0 {
			wasOver := false
			for since := ticks[n-1]; since <= tick; since++ {
				wasOver = wasOver || isOver(since)
			}
			triggers = triggers && wasOver
		}
		if triggers {
			ticks = append(ticks, tick)
		}
	}
	return ticks
}

// TestTriggersSlowly compares with slowTriggers.
func TestTriggersSlowly(t *testing.T) {
	r := rand.New(rand.NewSource(81))
	seen := map[int]int{}
	for range 20000 {
		rule, levels := randomRule(r), randomLevels(r, 2)
		want := slowTriggers(rule, levels[0], levels[1])
		expectTriggers(t, rule, levels[0], levels[1], want)
		seen[min(3, len(want))]++
	}
	for n := range 4 {
		if seen[n] < 1000 {
			t.Errorf("%d triggers: %d times", n, seen[n])
		}
	}
}

// TestLaterNotSooner is P8.11.
func TestLaterNotSooner(t *testing.T) {
	r := rand.New(rand.NewSource(82))
	later := 0
	for range 20000 {
		rule, levels := randomRule(r), randomLevels(r, 2)
		first, e := move.FirstTrigger(rule, levels[0], levels[1])
		if e == api.OK && levels[1][first] <= levels[0][first]+rule.Offset+rule.Hyst {
			t.Errorf("%v is not better at %d of %v", rule, first, levels)
		}
		greater := rule
		if r.Intn(2) == 0 {
			greater.Trigger = min(40, rule.Trigger+1+r.Intn(3))
		} else {
			greater.Offset = min(300, rule.Offset+1+r.Intn(3))
		}
		second, f := move.FirstTrigger(greater, levels[0], levels[1])
		if e != api.OK && f == api.OK || f == api.OK && second < first {
			t.Errorf("%v triggers at %d, error %d, and %v at %d, error %d", rule, first, e, greater, second, f)
		}
		if f == api.OK && second > first {
			later++
		}
	}
	if later < 1000 {
		t.Errorf("%d times later", later)
	}
}

func TestStrongest(t *testing.T) {
	rule := api.MoveRule{Offset: 30, Hyst: 10, Trigger: 1}
	serving, _ := around(0, 0, 0, 0)
	_, first := around(41, 41, 41, 41)
	_, second := around(0, 41, 41, 100)
	_, strong := around(41, 42, 0, 0)
	_, never := around(100, 40, 100, 40)
	for _, x := range []struct {
		levels  [][]int
		serving int
		want    api.MoveReport
		e       api.Errno
	}{
		{[][]int{serving}, 0, api.MoveReport{}, api.ErrNone},
		{[][]int{nil, nil}, 1, api.MoveReport{}, api.ErrNone},
		{[][]int{serving, never}, 0, api.MoveReport{}, api.ErrNone},
		{[][]int{serving, first}, 0, api.MoveReport{At: 1, Cell: 1}, api.OK},
		{[][]int{first, serving}, 1, api.MoveReport{At: 1, Cell: 0}, api.OK},
		{[][]int{first, serving}, 0, api.MoveReport{}, api.ErrNone},
		{[][]int{second, serving}, 1, api.MoveReport{At: 2, Cell: 0}, api.OK},
		{[][]int{second, serving, first}, 1, api.MoveReport{At: 1, Cell: 2}, api.OK}, // sooner, if not so strong later
		{[][]int{first, serving, second}, 1, api.MoveReport{At: 1, Cell: 0}, api.OK},
		{[][]int{first, serving, strong}, 1, api.MoveReport{At: 1, Cell: 2}, api.OK}, // stronger then
		{[][]int{strong, serving, first}, 1, api.MoveReport{At: 1, Cell: 0}, api.OK},
		{[][]int{never, first, serving, first}, 2, api.MoveReport{At: 1, Cell: 1}, api.OK}, // the first of several
		{[][]int{never, first, first, first, first, serving}, 5, api.MoveReport{At: 1, Cell: 1}, api.OK},
		{[][]int{strong, first, serving, strong, second, never}, 2, api.MoveReport{At: 1, Cell: 0}, api.OK},
	} {
		got, e := move.Strongest(rule, x.levels, x.serving)
		expect(t, fmt.Sprint("Strongest ", x.levels, x.serving), got, e, x.want, x.e)
	}
	_, equal := around(0, 0, 0, 0)
	got, e := move.Strongest(api.MoveRule{Offset: -1}, [][]int{serving, equal}, 0)
	expect(t, "Strongest of equal levels", got, e, api.MoveReport{At: 0, Cell: 1}, api.OK)
	got, e = move.Strongest(api.MoveRule{Offset: -1}, [][]int{serving}, 0)
	expect(t, "the serving cell is no neighbour", got, e, api.MoveReport{}, api.ErrNone)
}

// TestStrongestSlowly looks at all cells tick by tick.
func TestStrongestSlowly(t *testing.T) {
	r := rand.New(rand.NewSource(83))
	seen := map[api.Errno]int{}
	together := 0
	for range 20000 {
		cells := 1 + r.Intn(6)
		rule, levels, serving := randomRule(r), randomLevels(r, cells), r.Intn(cells)
		want, f := api.MoveReport{}, api.ErrNone
		for tick := range levels[0] {
			var all []int
			for cell := range cells {
				if cell != serving && slices.Contains(slowTriggers(rule, levels[serving], levels[cell]), tick) {
					all = append(all, cell)
				}
			}
			if len(all) == 0 {
				continue
			}
			want, f = api.MoveReport{At: tick, Cell: all[0]}, api.OK
			for _, cell := range all {
				if levels[cell][tick] > levels[want.Cell][tick] {
					want.Cell = cell
				}
			}
			if want.Cell != all[0] {
				together++
			}
			break
		}
		got, e := move.Strongest(rule, levels, serving)
		expect(t, fmt.Sprint("Strongest ", rule, levels, serving), got, e, want, f)
		seen[f]++
	}
	if seen[api.OK] < 5000 || seen[api.ErrNone] < 1000 || together < 1000 {
		t.Errorf("seen %v, %d times a later one was stronger", seen, together)
	}
}
