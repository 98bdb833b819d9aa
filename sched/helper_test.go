package sched_test

import (
	"fmt"
	"math/big"
	"math/rand"
	"reflect"
	"slices"
	"testing"

	"downtilt/api"
	"downtilt/sched"
)

// same compares results as they are printed: so a nil list and an empty one are the same.
func same(a, b any) bool {
	return fmt.Sprintf("%T %v", a, a) == fmt.Sprintf("%T %v", b, b)
}

// expect compares a result and its error with what they should be.
func expect(t *testing.T, what string, got any, e api.Errno, want any, f api.Errno) {
	t.Helper()
	if !same(got, want) || e != f {
		t.Errorf("%s: %v, error %d; want %v, error %d", what, got, e, want, f)
	}
}

// must returns a result whose error is none.
func must[X any](x X, e api.Errno) X {
	if e != api.OK {
		panic(fmt.Sprint("error ", e))
	}
	return x
}

// exampleSite is the site of the chapter's examples.
func exampleSite() api.SchedSite {
	return api.SchedSite{Blocks: 10, Control: 3, Power: 1000, Table: []int{0, 10, 20, 40}}
}

// exampleSure is the bearer v of the chapter's examples.
func exampleSure() api.SchedBearer {
	return guaranteed("v", api.SchedSure, 20, 1, 100, 20, 4)
}

// exampleBest is the bearer b of the chapter's examples.
func exampleBest() api.SchedBearer {
	return best("b", 0, 10)
}

func best(name string, priority, power int) api.SchedBearer {
	return api.SchedBearer{Name: name, Priority: priority, Weight: 1, Power: power}
}

// guaranteed has the priority and the weight 1.
func guaranteed(name string, kind, power, least, burst, rate, delay int) api.SchedBearer {
	return api.SchedBearer{Name: name, Kind: kind, Priority: 1, Weight: 1, Power: power, Least: least, Burst: burst, Rate: rate, Delay: delay}
}

// needing is a guaranteed bearer that needs so many blocks of the example's site, and the power 10 for each.
func needing(name string, kind, priority, blocks int) api.SchedBearer {
	x := guaranteed(name, kind, 10, 1, 10*blocks, 0, 1)
	x.Priority = priority
	return x
}

// slot lists the reports, and behind them the arrivals.
func slot(numbers ...int) api.SchedSlot {
	half := len(numbers) / 2
	return api.SchedSlot{Reports: numbers[:half], Arrivals: numbers[half:]}
}

// arguments are of all functions.
type arguments struct {
	Site     api.SchedSite
	Report   int
	Loop     api.SchedLoop
	Acks     []bool
	Bearer   api.SchedBearer
	Bearers  []api.SchedBearer
	Blocks   int
	Arrivals []int
	Slots    []api.SchedSlot
	Demand   api.SchedDemand
	A, B     api.SchedShares
	Case     [][]int
	Turns    []int
	Weights  []int
	Text     string
}

// rightArguments are right for each function; a window breaks the contract, and a bit is late.
func rightArguments() arguments {
	return arguments{
		Site:   api.SchedSite{Blocks: 10, Control: 4, Power: 1000, Table: []int{0, 10, 20, 40}},
		Report: 3,
		Loop:   api.SchedLoop{Offset: -6, Up: 1, Down: 9, Limits: api.Range{Lo: -50, Hi: 50}},
		Acks:   []bool{true, false, true},
		Bearer: exampleSure(),
		Bearers: []api.SchedBearer{
			guaranteed("u", api.SchedSure, 20, 1, 30, 10, 3),
			exampleBest(),
			guaranteed("e", api.SchedEmergency, 30, 2, 40, 5, 2),
		},
		Blocks:   3,
		Arrivals: []int{100, 20, 21},
		Slots:    []api.SchedSlot{slot(1, 3, 0, 0, 50, 10), slot(1, 2, 0, 5, 0, 0)},
		Demand:   api.SchedDemand{Total: 10, Demands: []int{2, 10, 10}, Weights: []int{1, 1, 2}},
		A:        api.SchedShares{Den: 3, Parts: []int{6, 8, 16}},
		B:        api.SchedShares{Den: 1, Parts: []int{2, 2, 6}},
		Case:     [][]int{{4, 1}, {3, 3}, {1, 4}},
		Turns:    []int{0, 0, 1},
		Weights:  []int{1, 1},
		Text:     "v sure 1 1 20 1 100 20 4",
	}
}

// function is one of the package, with the results ahead of its error.
type function struct {
	name string
	call func(arguments) ([]any, api.Errno)
}

func functions() []function {
	type a = arguments
	type r = []any
	type e = api.Errno
	return []function{
		{"CheckSite", func(a a) (r, e) { return nil, sched.CheckSite(a.Site) }},
		{"RateOf", func(a a) (r, e) { return one(sched.RateOf(a.Site, a.Report)) }},
		{"Adapted", func(a a) (r, e) { return one(sched.Adapted(a.Loop, a.Report)) }},
		{"LoopAfter", func(a a) (r, e) { return one(sched.LoopAfter(a.Loop, a.Acks)) }},
		{"CheckBearer", func(a a) (r, e) { return nil, sched.CheckBearer(a.Site, a.Bearer) }},
		{"CheckBearers", func(a a) (r, e) { return withoutNumber(sched.CheckBearers(a.Site, a.Bearers)) }},
		{"NeedOf", func(a a) (r, e) { return one(sched.NeedOf(a.Site, a.Bearer)) }},
		{"DelayOf", func(a a) (r, e) { return one(sched.DelayOf(a.Site, a.Bearer, a.Blocks)) }},
		{"Room", func(a a) (r, e) { return one(sched.Room(a.Site, a.Bearers)) }},
		{"Admit", func(a a) (r, e) { return one(sched.Admit(a.Site, a.Bearers, a.Bearer)) }},
		{"Breaks", func(a a) (r, e) { return one(sched.Breaks(a.Site, a.Bearer, a.Arrivals)) }},
		{"Run", func(a a) (r, e) { return one(sched.Run(a.Site, a.Bearers, a.Slots)) }},
		{"FirstLate", func(a a) (r, e) { return one(sched.FirstLate(a.Site, a.Bearers, a.Slots)) }},
		{"SharesOf", func(a a) (r, e) { return one(sched.SharesOf(a.Demand)) }},
		{"CheckShares", func(a a) (r, e) { return nil, sched.CheckShares(a.Demand, a.A) }},
		{"Fairer", func(a a) (r, e) { return one(sched.Fairer(a.Demand, a.A, a.B)) }},
		{"TurnsOf", func(a a) (r, e) { return one(sched.TurnsOf(a.Case, a.Turns)) }},
		{"BestTurns", func(a a) (r, e) { return two(sched.BestTurns(a.Case)) }},
		{"CheckBound", func(a a) (r, e) { return one(sched.CheckBound(a.Case, a.Weights)) }},
		{"FormatBearer", func(a a) (r, e) { return r{sched.FormatBearer(a.Bearer)}, api.OK }},
		{"ParseBearer", func(a a) (r, e) { return one(sched.ParseBearer(a.Text)) }},
	}
}

func one[X any](x X, e api.Errno) ([]any, api.Errno) {
	return []any{x}, e
}

func two[X, Y any](x X, y Y, e api.Errno) ([]any, api.Errno) {
	return []any{x, y}, e
}

// withoutNumber leaves out the number of a bearer, which stands beside an error.
func withoutNumber(_ int, e api.Errno) ([]any, api.Errno) {
	return nil, e
}

// mistake is a change that makes right arguments wrong: which of them, and the error of that.
type mistake struct {
	touches string
	change  func(*arguments)
	e       api.Errno
}

// wrong is a value that is not right, and its error.
type wrong[X any] struct {
	x X
	e api.Errno
}

// mistakes puts values that are not right into an argument.
func mistakes[X any](touches string, at func(*arguments) *X, all []wrong[X]) []mistake {
	var l []mistake
	for _, w := range all {
		l = append(l, mistake{touches, func(a *arguments) { *at(a) = w.x }, w.e})
	}
	return l
}

// checkErrors makes right arguments wrong by each mistake, and by each two that touch different ones: the error of the earlier one comes, and beside it nothing.
func checkErrors(t *testing.T, name string, all ...[]mistake) {
	t.Helper()
	checkErrorsOf(t, name, rightArguments, all...)
}

// checkErrorsOf is checkErrors with other right arguments.
func checkErrorsOf(t *testing.T, name string, rightOnes func() arguments, all ...[]mistake) {
	t.Helper()
	f := functionOf(name)
	right, e := f.call(rightOnes())
	if e != api.OK {
		t.Fatalf("%s of right arguments: error %d", name, e)
	}
	list := slices.Concat(all...)
	for i, x := range list {
		for j, y := range list[i:] {
			if j > 0 && x.touches == y.touches {
				continue
			}
			a := rightOnes()
			y.change(&a)
			x.change(&a)
			results, e := f.call(a)
			if e != x.e || !areNothing(results) || len(results) != len(right) {
				t.Errorf("%s, mistakes %d (%s) and %d (%s): %v, error %d, want error %d", name, i, x.touches, i+j, y.touches, results, e, x.e)
			}
		}
	}
}

func functionOf(name string) function {
	all := functions()
	return all[slices.IndexFunc(all, func(f function) bool { return f.name == name })]
}

// areNothing tells whether all results are zero values, or empty lists.
func areNothing(results []any) bool {
	return !slices.ContainsFunc(results, func(x any) bool { return !isNothing(reflect.ValueOf(x)) })
}

func isNothing(v reflect.Value) bool {
	switch v.Kind() {
	case reflect.Slice:
		return v.Len() == 0
	case reflect.Struct:
		for i := range v.NumField() {
			if !isNothing(v.Field(i)) {
				return false
			}
		}
		return true
	}
	return v.IsZero()
}

// ratio is num / den of any size.
func ratio(num, den int) *big.Rat {
	return big.NewRat(int64(num), int64(den))
}

// up is num / den, rounded up.
func up(num, den int) int {
	n := num / den
	if num%den > 0 {
		n++
	}
	return n
}

func sumOf(l []int) int {
	sum := 0
	for _, n := range l {
		sum += n
	}
	return sum
}

// upTo is a number from 0 to most, often an end.
func upTo(r *rand.Rand, most int) int {
	switch r.Intn(6) {
	case 0:
		return 0
	case 1:
		return most
	}
	return r.Intn(most + 1)
}

func randomList(r *rand.Rand, count, most int) []int {
	l := make([]int, count)
	for i := range l {
		l[i] = upTo(r, most)
	}
	return l
}

// randomSite has at least one report whose rate is above 0.
func randomSite(r *rand.Rand) api.SchedSite {
	s := api.SchedSite{Blocks: 1 + r.Intn(20), Control: 1 + r.Intn(8), Power: upTo(r, []int{50, 300, 100000}[r.Intn(3)])}
	s.Table = randomList(r, 1+r.Intn(16), []int{5, 30, 1000}[r.Intn(3)])
	slices.Sort(s.Table)
	s.Table[len(s.Table)-1] = max(1, s.Table[len(s.Table)-1])
	return s
}

// randomBearer is often one with a small need.
func randomBearer(r *rand.Rand, s api.SchedSite, name string) api.SchedBearer {
	x := api.SchedBearer{Name: name, Kind: r.Intn(3), Priority: r.Intn(4), Weight: 1 + upTo(r, []int{3, 99}[r.Intn(2)]), Power: upTo(r, []int{5, 20, 100000}[r.Intn(3)])}
	if x.Kind == api.SchedBest {
		return x
	}
	for x.Least = r.Intn(len(s.Table)); s.Table[x.Least] == 0; x.Least++ {
	}
	rate := s.Table[x.Least]
	x.Delay = 1 + upTo(r, []int{3, 10, 999}[r.Intn(3)])
	x.Rate = upTo(r, rate*2)
	x.Burst = 1 + upTo(r, min(rate*x.Delay*2, 999999))
	return x
}

// names are of bearers.
func names() []string {
	return []string{"a", "b", "c", "d", "e", "f", "g", "h", "i"}
}

// randomBearers are right: whoever does not fit is left out.
func randomBearers(r *rand.Rand, s api.SchedSite) []api.SchedBearer {
	var l []api.SchedBearer
	for _, name := range names()[:r.Intn(9)] {
		with := append(slices.Clone(l), randomBearer(r, s, name))
		if _, e := sched.CheckBearers(s, with); e == api.OK {
			l = with
		}
	}
	return l
}

// randomSlots are of any reports and arrivals.
func randomSlots(r *rand.Rand, s api.SchedSite, bearers int) []api.SchedSlot {
	l := make([]api.SchedSlot, r.Intn(13))
	if r.Intn(20) == 0 {
		l = make([]api.SchedSlot, 60)
	}
	most := []int{3, 100, 2000, 1000000}[r.Intn(4)]
	for i := range l {
		l[i] = api.SchedSlot{Reports: randomList(r, bearers, len(s.Table)-1), Arrivals: randomList(r, bearers, most)}
	}
	return l
}

func randomDemand(r *rand.Rand) api.SchedDemand {
	users := 1 + r.Intn(8)
	most := []int{1, 5, 20, 1000, 1000000}[r.Intn(5)]
	q := api.SchedDemand{Demands: randomList(r, users, most), Weights: randomList(r, users, []int{2, 5, 99}[r.Intn(3)])}
	for i := range q.Weights {
		q.Weights[i]++
	}
	q.Total = min(upTo(r, most*users), 1000000)
	if r.Intn(3) == 0 {
		q.Total = min(upTo(r, sumOf(q.Demands)), 1000000)
	}
	return q
}

// randomShares are right, of any denominator.
func randomShares(r *rand.Rand, q api.SchedDemand) api.SchedShares {
	x := api.SchedShares{Den: []int{1, 2, 6, 1 + r.Intn(1000000000), 1000000000}[r.Intn(5)], Parts: make([]int, len(q.Demands))}
	left := q.Total * x.Den
	for _, i := range r.Perm(len(x.Parts)) {
		x.Parts[i] = upTo(r, min(left, q.Demands[i]*x.Den))
		left -= x.Parts[i]
	}
	return x
}

func randomCase(r *rand.Rand) [][]int {
	users := 1 + r.Intn(4)
	l := make([][]int, 1+r.Intn(6))
	most := []int{1, 4, 20, 1000000}[r.Intn(4)]
	for i := range l {
		l[i] = randomList(r, users, most)
	}
	return l
}

// randomWeights are not all 0.
func randomWeights(r *rand.Rand, users int) []int {
	l := randomList(r, users, []int{1, 3, 100}[r.Intn(3)])
	l[r.Intn(users)] = 1 + r.Intn(100)
	return l
}
