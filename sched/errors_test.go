package sched_test

import (
	"math"
	"slices"
	"strings"
	"testing"

	"downtilt/api"
	"downtilt/sched"
)

// wrongInts is numbers that are beyond a range.
func wrongInts(lo, hi int) []wrong[int] {
	return []wrong[int]{{lo - 1, api.ErrRange}, {hi + 1, api.ErrRange}, {math.MinInt, api.ErrRange}, {math.MaxInt, api.ErrRange}}
}

// wrongLists is lists in which one number is beyond a range; all others are 0.
func wrongLists(count, lo, hi int) []wrong[[]int] {
	var l []wrong[[]int]
	for _, w := range wrongInts(lo, hi) {
		for _, at := range []int{0, count / 2, count - 1} {
			list := make([]int, count)
			list[at] = w.x
			l = append(l, wrong[[]int]{list, w.e})
		}
	}
	return l
}

func siteErrors() []mistake {
	table := append(wrongLists(4, 0, 1000), wrongLists(16, 0, 1000)...)
	table = append(table,
		wrong[[]int]{nil, api.ErrShape},
		wrong[[]int]{make([]int, 17), api.ErrLarge},
		wrong[[]int]{slices.Repeat([]int{-1}, 17), api.ErrLarge},
		wrong[[]int]{[]int{1, 0}, api.ErrOrder},
		wrong[[]int]{[]int{0, 10, 20, 19}, api.ErrOrder},
		wrong[[]int]{[]int{0, 10, 9, 20}, api.ErrOrder},
		wrong[[]int]{[]int{5, 4, 1001}, api.ErrOrder},
		wrong[[]int]{[]int{5, 1001, 4}, api.ErrRange},
		wrong[[]int]{[]int{5, -1}, api.ErrRange},
		wrong[[]int]{append(slices.Repeat([]int{1000}, 15), 999), api.ErrOrder})
	return slices.Concat(
		mistakes("blocks of the site", func(a *arguments) *int { return &a.Site.Blocks }, wrongInts(1, 20)),
		mistakes("control of the site", func(a *arguments) *int { return &a.Site.Control }, wrongInts(1, 8)),
		mistakes("power of the site", func(a *arguments) *int { return &a.Site.Power }, wrongInts(0, 100000)),
		mistakes("table", func(a *arguments) *[]int { return &a.Site.Table }, table))
}

func loopErrors() []mistake {
	return slices.Concat(
		mistakes("up", func(a *arguments) *int { return &a.Loop.Up }, wrongInts(0, 200)),
		mistakes("down", func(a *arguments) *int { return &a.Loop.Down }, wrongInts(0, 200)),
		mistakes("limits", func(a *arguments) *api.Range { return &a.Loop.Limits }, []wrong[api.Range]{
			{api.Range{Lo: -201, Hi: 0}, api.ErrRange},
			{api.Range{Lo: 201, Hi: 0}, api.ErrRange},
			{api.Range{Lo: -50, Hi: 201}, api.ErrRange},
			{api.Range{Lo: 0, Hi: -201}, api.ErrRange},
			{api.Range{Lo: math.MinInt, Hi: math.MaxInt}, api.ErrRange},
			{api.Range{Lo: math.MaxInt, Hi: math.MinInt}, api.ErrRange},
			{api.Range{Lo: 1, Hi: 0}, api.ErrOrder},
			{api.Range{Lo: 200, Hi: -200}, api.ErrOrder},
			{api.Range{Lo: -5, Hi: -6}, api.ErrOrder},
			{api.Range{Lo: -5, Hi: 50}, api.ErrRange},
			{api.Range{Lo: -50, Hi: -7}, api.ErrRange},
		}),
		mistakes("offset", func(a *arguments) *int { return &a.Loop.Offset }, wrongInts(-50, 50)))
}

func wrongNames() []wrong[string] {
	var l []wrong[string]
	for _, name := range []string{"", "1a", "-a", "a b", "a_b", "a\n", "\x00", "é", "aé", "a\xff", "a.", "abcdefghijklm", strings.Repeat("a", 1000), "a/", "a:", "@", "[", "`", "{", "a@", "a[", "a`", "a{"} {
		l = append(l, wrong[string]{name, api.ErrName})
	}
	return l
}

// bearerErrors are those of a bearer but for the ones of its contract.
func bearerErrors(at func(*arguments) *api.SchedBearer) []mistake {
	return slices.Concat(
		mistakes("name", func(a *arguments) *string { return &at(a).Name }, wrongNames()),
		mistakes("kind", func(a *arguments) *int { return &at(a).Kind }, []wrong[int]{{-1, api.ErrKind}, {3, api.ErrKind}, {math.MinInt, api.ErrKind}, {math.MaxInt, api.ErrKind}}),
		mistakes("priority", func(a *arguments) *int { return &at(a).Priority }, wrongInts(0, 100)),
		mistakes("weight", func(a *arguments) *int { return &at(a).Weight }, wrongInts(1, 100)),
		mistakes("power", func(a *arguments) *int { return &at(a).Power }, wrongInts(0, 100000)))
}

func contractErrors(at func(*arguments) *api.SchedBearer) []mistake {
	least := func(a *arguments) *int { return &at(a).Least }
	return slices.Concat(
		mistakes("least", least, wrongInts(0, 3)),
		mistakes("burst", func(a *arguments) *int { return &at(a).Burst }, wrongInts(1, 1000000)),
		mistakes("rate", func(a *arguments) *int { return &at(a).Rate }, wrongInts(0, 1000000)),
		mistakes("delay", func(a *arguments) *int { return &at(a).Delay }, wrongInts(1, 1000)),
		mistakes("least", least, []wrong[int]{{0, api.ErrZero}}))
}

// bestErrors are those of a contract where there may be none.
func bestErrors(at func(*arguments) *api.SchedBearer) []mistake {
	wrongs := []wrong[int]{{1, api.ErrForm}, {-1, api.ErrForm}, {math.MinInt, api.ErrForm}, {math.MaxInt, api.ErrForm}}
	return slices.Concat(
		mistakes("least", func(a *arguments) *int { return &at(a).Least }, wrongs),
		mistakes("burst", func(a *arguments) *int { return &at(a).Burst }, wrongs),
		mistakes("rate", func(a *arguments) *int { return &at(a).Rate }, wrongs),
		mistakes("delay", func(a *arguments) *int { return &at(a).Delay }, wrongs))
}

func theBearer(a *arguments) *api.SchedBearer { return &a.Bearer }

func oneBearer() []mistake {
	return append(bearerErrors(theBearer), contractErrors(theBearer)...)
}

// bearersErrors are those of a list; each bearer of it that can be wrong is.
func bearersErrors() []mistake {
	last := func(a *arguments) *api.SchedBearer {
		a.Bearers = slices.Clone(a.Bearers)
		return &a.Bearers[2]
	}
	l := mistakes("bearers", func(a *arguments) *[]api.SchedBearer { return &a.Bearers }, wrongBearers())
	for _, m := range append(bearerErrors(last), contractErrors(last)...) {
		m.touches = "bearers"
		l = append(l, m)
	}
	return l
}

func wrongBearers() []wrong[[]api.SchedBearer] {
	type list = []api.SchedBearer
	u, b := rightArguments().Bearers[0], exampleBest()
	noName, noForm := b, b
	noName.Name, noForm.Delay = "", 1
	noForm.Name = "n"
	clash := exampleSure()
	clash.Name = "b"
	clashWrong := clash
	clashWrong.Weight = 0
	return []wrong[list]{
		{make(list, 9), api.ErrLarge},
		{slices.Repeat(list{b}, 9), api.ErrLarge},
		{list{noName, noForm}, api.ErrName},
		{list{noForm, noName}, api.ErrForm},
		{list{b, b}, api.ErrExists},
		{list{b, u, clash}, api.ErrExists},
		{list{u, b, u, noName}, api.ErrExists},
		{list{b, clashWrong}, api.ErrRange},
		{list{b, noName, clash}, api.ErrName},
		{list{needing("x", api.SchedSure, 1, 11)}, api.ErrFull},
		{list{needing("x", api.SchedSure, 1, 5), b, needing("y", api.SchedEmergency, 1, 6)}, api.ErrFull},
		{list{needing("x", api.SchedSure, 1, 6), b, needing("y", api.SchedSure, 1, 6), b}, api.ErrExists},
		{list{needing("p", 1, 1, 1), needing("q", 1, 1, 1), needing("r", 2, 1, 1), needing("s", 1, 1, 1), needing("t", 2, 1, 1)}, api.ErrFull},
		{list{guaranteed("x", api.SchedSure, 1001, 1, 1, 0, 1)}, api.ErrFull},
		{list{guaranteed("x", api.SchedSure, 500, 1, 1, 0, 1), guaranteed("y", api.SchedSure, 501, 1, 1, 0, 1)}, api.ErrFull},
		{list{guaranteed("x", api.SchedSure, 100000, 1, 1000000, 1000000, 1)}, api.ErrFull},
	}
}

func theReport(hi int) []mistake {
	return mistakes("report", func(a *arguments) *int { return &a.Report }, wrongInts(0, hi))
}

func TestErrorsOfSites(t *testing.T) {
	checkErrors(t, "CheckSite", siteErrors())
	checkErrors(t, "RateOf", siteErrors(), theReport(3))
}

func TestErrorsOfLoops(t *testing.T) {
	acks := mistakes("acks", func(a *arguments) *[]bool { return &a.Acks }, []wrong[[]bool]{{make([]bool, 1001), api.ErrLarge}, {make([]bool, 5000), api.ErrLarge}})
	checkErrors(t, "Adapted", loopErrors(), theReport(15))
	checkErrors(t, "LoopAfter", loopErrors(), acks)
}

// bestArguments have a bearer of best effort.
func bestArguments() arguments {
	a := rightArguments()
	a.Bearer = best("v", 0, 10)
	return a
}

func TestErrorsOfOneBearer(t *testing.T) {
	for _, name := range []string{"CheckBearer", "NeedOf"} {
		checkErrors(t, name, siteErrors(), oneBearer())
		checkErrorsOf(t, name, bestArguments, siteErrors(), bearerErrors(theBearer)[:len(wrongNames())], bearerErrors(theBearer)[len(wrongNames())+4:], bestErrors(theBearer))
	}
	emergency := func() arguments {
		a := rightArguments()
		a.Bearer.Kind = api.SchedEmergency
		return a
	}
	checkErrorsOf(t, "CheckBearer", emergency, siteErrors(), oneBearer())
	blocks := mistakes("blocks", func(a *arguments) *int { return &a.Blocks }, append(wrongInts(1, 10), wrong[int]{20, api.ErrRange}))
	few := mistakes("blocks", func(a *arguments) *int { return &a.Blocks }, []wrong[int]{{1, api.ErrNone}})
	isBest := []mistake{{"bearer", func(a *arguments) { a.Bearer = exampleBest() }, api.ErrKind}}
	checkErrors(t, "DelayOf", siteErrors(), oneBearer(), blocks, few)
	checkErrors(t, "DelayOf", siteErrors(), isBest, blocks, few)
	arrivals := append(wrongLists(3, 0, 1000000), wrongLists(60, 0, 1000000)...)
	arrivals = append(arrivals,
		wrong[[]int]{make([]int, 61), api.ErrLarge},
		wrong[[]int]{slices.Repeat([]int{-1}, 61), api.ErrLarge},
		wrong[[]int]{[]int{1000, -1}, api.ErrRange})
	quiet := []wrong[[]int]{{nil, api.ErrNone}, {make([]int, 60), api.ErrNone}, {[]int{100, 20, 20}, api.ErrNone}}
	all := mistakes("arrivals", func(a *arguments) *[]int { return &a.Arrivals }, append(arrivals, quiet...))
	checkErrors(t, "Breaks", siteErrors(), oneBearer(), all)
	checkErrors(t, "Breaks", siteErrors(), isBest, all)
}

func TestErrorsOfBearers(t *testing.T) {
	checkErrors(t, "CheckBearers", siteErrors(), bearersErrors())
	checkErrors(t, "Room", siteErrors(), bearersErrors())
}

// TestNumberOfTheBearer looks at the number beside an error of bearers.
func TestNumberOfTheBearer(t *testing.T) {
	type list = []api.SchedBearer
	b, c, noName := exampleBest(), best("c", 0, 0), best("", 0, 0)
	for _, x := range []struct {
		l list
		n int
		e api.Errno
	}{
		{nil, 0, api.OK},
		{list{b, c}, 0, api.OK},
		{list{noName, b}, 0, api.ErrName},
		{list{b, noName}, 1, api.ErrName},
		{list{b, c, b}, 2, api.ErrExists},
		{list{b, c, c, b}, 2, api.ErrExists},
		{append(slices.Repeat(list{b}, 8), noName), 0, api.ErrLarge},
		{list{b, exampleSure(), needing("x", api.SchedSure, 1, 8)}, 0, api.ErrFull},
		{list{b, needing("x", api.SchedSure, 1, 8), exampleSure(), c, noName}, 4, api.ErrName},
	} {
		n, e := sched.CheckBearers(exampleSite(), x.l)
		expect(t, "CheckBearers", n, e, x.n, x.e)
	}
	n, e := sched.CheckBearers(api.SchedSite{}, list{b, noName})
	expect(t, "CheckBearers, wrong site", n, e, 0, api.ErrRange)
}

func TestErrorsOfAdmission(t *testing.T) {
	refused := mistakes("bearer", func(a *arguments) *api.SchedBearer { return &a.Bearer }, []wrong[api.SchedBearer]{
		{best("u", 0, 0), api.ErrExists},
		{best("e", 0, 0), api.ErrExists},
		{needing("u", api.SchedSure, 1, 11), api.ErrExists},
		{needing("b", api.SchedEmergency, 1, 9), api.ErrExists},
		{needing("x", api.SchedSure, 1, 11), api.ErrLarge},
		{needing("x", api.SchedEmergency, 1, 11), api.ErrLarge},
		{guaranteed("x", api.SchedEmergency, 1001, 1, 1, 0, 1), api.ErrLarge},
		{guaranteed("x", api.SchedSure, 501, 1, 20, 0, 1), api.ErrLarge},
		{guaranteed("x", api.SchedSure, 951, 1, 1, 0, 1), api.ErrRefused},
		{needing("x", api.SchedSure, 1, 9), api.ErrRefused},
		{needing("x", api.SchedEmergency, 1, 10), api.ErrRefused},
	})
	checkErrors(t, "Admit", siteErrors(), bearersErrors(), oneBearer())
	checkErrors(t, "Admit", siteErrors(), bearersErrors(), refused)
	same := mistakes("other", func(a *arguments) *string { return &a.Bearers[1].Name }, []wrong[string]{{"v", api.ErrExists}})
	checkErrors(t, "Admit", siteErrors(), oneBearer()[len(wrongNames()):], same)
}

func wrongSlots() []wrong[[]api.SchedSlot] {
	type list = []api.SchedSlot
	right := slot(0, 1, 3, 0, 5, 1000000)
	badRange, badShape := slot(0, 0, 4, 0, 0, 0), slot(0, 4, 0, -1)
	l := []wrong[list]{
		{slices.Repeat(list{right}, 61), api.ErrLarge},
		{make(list, 61), api.ErrLarge},
		{list{badRange, badShape}, api.ErrRange},
		{list{badShape, badRange}, api.ErrShape},
		{list{right, badRange, badShape}, api.ErrRange},
		{list{right, badShape, badRange}, api.ErrShape},
		{list{{}}, api.ErrShape},
		{list{{Reports: []int{0, 0, 0}}}, api.ErrShape},
		{list{{Arrivals: []int{0, 0, 0}}}, api.ErrShape},
		{list{{Reports: []int{0, 9}, Arrivals: []int{0, 0, 0}}}, api.ErrShape},
		{list{{Reports: []int{0, 0, 0}, Arrivals: []int{0, -1}}}, api.ErrShape},
		{list{{Reports: []int{0, 0, 0, 9}, Arrivals: []int{0, 0, 0, -1}}}, api.ErrShape},
	}
	for _, w := range wrongLists(3, 0, 3) {
		x := api.SchedSlot{Reports: w.x, Arrivals: []int{0, 0, 0}}
		l = append(l, wrong[list]{list{x, right}, w.e}, wrong[list]{append(slices.Repeat(list{right}, 59), x), w.e})
	}
	for _, w := range wrongLists(3, 0, 1000000) {
		x := api.SchedSlot{Reports: []int{0, 0, 0}, Arrivals: w.x}
		l = append(l, wrong[list]{list{x, right}, w.e}, wrong[list]{append(slices.Repeat(list{right}, 59), x), w.e})
	}
	return l
}

func TestErrorsOfRuns(t *testing.T) {
	slots := func(all []wrong[[]api.SchedSlot]) []mistake {
		return mistakes("slots", func(a *arguments) *[]api.SchedSlot { return &a.Slots }, all)
	}
	checkErrors(t, "Run", siteErrors(), bearersErrors(), slots(wrongSlots()))
	none := slots([]wrong[[]api.SchedSlot]{{nil, api.ErrNone}, {[]api.SchedSlot{slot(1, 1, 1, 10, 1000000, 10)}, api.ErrNone}})
	checkErrors(t, "FirstLate", siteErrors(), bearersErrors(), slots(wrongSlots()), none)
}

func demandErrors() []mistake {
	total := mistakes("total", func(a *arguments) *int { return &a.Demand.Total }, wrongInts(0, 1000000))
	both := func(demands, weights []int, e api.Errno) mistake {
		return mistake{"users", func(a *arguments) { a.Demand.Demands, a.Demand.Weights = demands, weights }, e}
	}
	l := []mistake{
		both(nil, nil, api.ErrShape),
		both(nil, []int{1}, api.ErrShape),
		both([]int{1}, nil, api.ErrShape),
		both([]int{-1, -1}, []int{0}, api.ErrShape),
		both([]int{-1}, []int{0, 0}, api.ErrShape),
		both(make([]int, 9), make([]int, 8), api.ErrShape),
		both(make([]int, 9), slices.Repeat([]int{1}, 9), api.ErrLarge),
		both(slices.Repeat([]int{-1}, 9), make([]int, 9), api.ErrLarge),
	}
	for _, w := range wrongLists(3, 0, 1000000) {
		l = append(l, both(w.x, []int{1, 1, 1}, w.e))
	}
	for _, count := range []int{1, 3, 8} {
		for _, w := range wrongInts(1, 100) {
			for at := range count {
				weights := slices.Repeat([]int{1}, count)
				weights[at] = w.x
				l = append(l, both(make([]int, count), weights, w.e))
			}
		}
	}
	return append(total, l...)
}

func wrongShares() []wrong[api.SchedShares] {
	var l []wrong[api.SchedShares]
	for _, w := range wrongInts(1, 1000000000) {
		l = append(l,
			wrong[api.SchedShares]{api.SchedShares{Den: w.x, Parts: []int{0, 0, 0}}, w.e},
			wrong[api.SchedShares]{api.SchedShares{Den: w.x}, w.e})
	}
	for _, parts := range [][]int{nil, {0, 0}, {-1, 0, 0, 0}, {9, 9}} {
		l = append(l, wrong[api.SchedShares]{api.SchedShares{Den: 1, Parts: parts}, api.ErrShape})
	}
	for _, w := range wrongLists(3, 0, 1000000000000000) {
		l = append(l, wrong[api.SchedShares]{api.SchedShares{Den: 1000000000, Parts: w.x}, w.e})
	}
	for _, parts := range [][]int{{7, 0, 0}, {0, 31, 0}, {0, 0, 31}, {1, 15, 15}, {6, 30, 30}, {0, 0, 1000000000000000}} {
		l = append(l, wrong[api.SchedShares]{api.SchedShares{Den: 3, Parts: parts}, api.ErrBreak})
	}
	return append(l, wrong[api.SchedShares]{api.SchedShares{Den: 3, Parts: []int{7, 0, -1}}, api.ErrRange})
}

func TestErrorsOfShares(t *testing.T) {
	shares := func(touches string, at func(*arguments) *api.SchedShares) []mistake {
		return mistakes(touches, at, wrongShares())
	}
	a := shares("a", func(a *arguments) *api.SchedShares { return &a.A })
	checkErrors(t, "SharesOf", demandErrors())
	checkErrors(t, "CheckShares", demandErrors(), a)
	checkErrors(t, "Fairer", demandErrors(), a, shares("b", func(a *arguments) *api.SchedShares { return &a.B }))
	var unfair []wrong[api.SchedShares]
	for _, parts := range [][]int{{6, 8, 15}, {6, 7, 17}, {5, 8, 16}, {5, 8, 17}, {6, 9, 15}, {0, 0, 0}, {0, 0, 30}} {
		unfair = append(unfair, wrong[api.SchedShares]{api.SchedShares{Den: 3, Parts: parts}, api.ErrProof})
	}
	checkErrors(t, "CheckShares", demandErrors(), mistakes("a", func(a *arguments) *api.SchedShares { return &a.A }, unfair))
}

func caseErrors() []mistake {
	type turns = [][]int
	all := []wrong[turns]{
		{nil, api.ErrShape},
		{turns{nil}, api.ErrShape},
		{turns{{}, {1}}, api.ErrShape},
		{make(turns, 7), api.ErrShape},
		{slices.Repeat(turns{{1, 2}}, 7), api.ErrLarge},
		{append(turns{{-1}}, make(turns, 6)...), api.ErrLarge},
		{turns{{1, 2, 3, 4, 5}}, api.ErrLarge},
		{turns{{-1, -1, -1, -1, -1}, nil}, api.ErrLarge},
		{turns{{1, 2}, {1}}, api.ErrShape},
		{turns{{1, 2}, {1, 2, 3}}, api.ErrShape},
		{turns{{1, 2}, {1, 2}, nil}, api.ErrShape},
		{turns{{1, 2}, {-1}}, api.ErrShape},
		{turns{{1, 2}, {-1, 1}, {1}}, api.ErrRange},
		{turns{{1, -1}, {1}}, api.ErrRange},
		{turns{{1, 2}, {1}, {-1, 1}}, api.ErrShape},
	}
	for _, w := range wrongLists(2, 0, 1000000) {
		all = append(all, wrong[turns]{turns{w.x}, w.e}, wrong[turns]{turns{{0, 0}, {0, 0}, w.x}, w.e})
	}
	return mistakes("case", func(a *arguments) *[][]int { return &a.Case }, all)
}

func TestErrorsOfCases(t *testing.T) {
	list := func(touches string, at func(*arguments) *[]int, all ...wrong[[]int]) []mistake {
		return mistakes(touches, at, all)
	}
	turns := list("turns", func(a *arguments) *[]int { return &a.Turns },
		wrong[[]int]{nil, api.ErrShape}, wrong[[]int]{[]int{0, 0}, api.ErrShape}, wrong[[]int]{[]int{9, 0, 0, 0}, api.ErrShape},
		wrong[[]int]{[]int{2, 0, 0}, api.ErrMissing}, wrong[[]int]{[]int{0, -1, 0}, api.ErrMissing}, wrong[[]int]{[]int{0, 0, 2}, api.ErrMissing},
		wrong[[]int]{[]int{0, 0, math.MaxInt}, api.ErrMissing}, wrong[[]int]{[]int{math.MinInt, 0, 1}, api.ErrMissing})
	weights := list("weights", func(a *arguments) *[]int { return &a.Weights }, append(wrongLists(2, 0, 100),
		wrong[[]int]{nil, api.ErrShape}, wrong[[]int]{[]int{0}, api.ErrShape}, wrong[[]int]{[]int{-1, 0, 0}, api.ErrShape},
		wrong[[]int]{[]int{101, 1}, api.ErrRange}, wrong[[]int]{[]int{1, -1}, api.ErrRange}, wrong[[]int]{[]int{0, 0}, api.ErrZero})...)
	checkErrors(t, "TurnsOf", caseErrors(), turns)
	checkErrors(t, "BestTurns", caseErrors())
	checkErrors(t, "CheckBound", caseErrors(), weights)
}
