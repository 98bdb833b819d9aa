package plan_test

import (
	"fmt"
	"math"
	"math/rand"
	"reflect"
	"slices"
	"testing"

	"downtilt/api"
	"downtilt/plan"
)

// same compares results as they are printed: so a nil list and an empty one are the same.
func same(a, b any) bool {
	return fmt.Sprintf("%T %v", a, a) == fmt.Sprintf("%T %v", b, b)
}

// expect compares a result and its error with what they should be.
func expect(t *testing.T, what string, got any, e api.Errno, want any, f api.Errno) {
	t.Helper()
	if !same(got, want) || e != f {
		t.Errorf("%s: %v, error %d; want %v, error %d", what, got, e, want, f)
	}
}

// must returns a result whose error is none.
func must[X any](x X, e api.Errno) X {
	if e != api.OK {
		panic(fmt.Sprint("error ", e))
	}
	return x
}

// exampleRaster is that of the chapter's examples.
func exampleRaster() api.PlanRaster {
	return api.PlanRaster{Rows: [][]int{{0, 0, 0}, {0, 50, 0}, {0, 0, 0}}}
}

// examplePlan is that of the chapter's examples.
func examplePlan() api.PlanPlan {
	return api.PlanPlan{
		Raster: exampleRaster(),
		Cells:  []api.PlanCell{exampleCell()},
		Losses: []api.PlanLoss{{Square: 2, Loss: 1000}, {Square: 8, Loss: 1300}},
		Hidden: 200,
		Step:   50,
		Least:  -900,
	}
}

func exampleCell() api.PlanCell {
	return api.PlanCell{Name: "a", Identity: 4, Mast: 30, Power: 600, Tilt: 10}
}

// twoCells is the example plan with a second cell like the first one at the other corner.
func twoCells() api.PlanPlan {
	p := examplePlan()
	p.Cells = append(p.Cells, api.PlanCell{Name: "b", Identity: 5, At: [2]int{2, 2}, Mast: 30, Power: 600, Tilt: 10})
	return p
}

// rowOf is the net of cells in a row.
func rowOf(cells int) api.PlanNet {
	n := api.PlanNet{Cells: cells}
	for cell := range cells - 1 {
		n.Pairs = append(n.Pairs, [2]int{cell, cell + 1})
	}
	return n
}

// arguments are of all functions.
type arguments struct {
	Raster     api.PlanRaster
	RasterCell api.PlanCell
	At         [2]int
	Plan       api.PlanPlan
	PlanAt     [2]int
	PlanCell   int
	Tilts      []int
	Resting    []int
	Margin     int
	Net        api.PlanNet
	NetCell    int
	Identities []int
	Cells      []int
	Needs      []int
	All        int
	First      []int
	Drive      []api.PlanDrive
	Text       string
}

// rightArguments are right for each function.
func rightArguments() arguments {
	return arguments{
		Raster:     exampleRaster(),
		RasterCell: exampleCell(),
		At:         [2]int{0, 2},
		Plan:       twoCells(),
		PlanAt:     [2]int{2, 1},
		PlanCell:   1,
		Tilts:      []int{0, 10, 11},
		Resting:    []int{1},
		Margin:     100,
		Net:        rowOf(4),
		NetCell:    2,
		Identities: []int{5, 6, 5, 7},
		Cells:      []int{1, 2, 3},
		Needs:      []int{4, 4, 4, 4},
		All:        12,
		First:      []int{0, 4, 3, 0},
		Drive:      []api.PlanDrive{{At: [2]int{0, 2}, Level: -720}, {At: [2]int{2, 2}, Level: -950}},
		Text:       "a 4 0 0 30 600 10",
	}
}

// function is one of the package, with the results ahead of its error.
type function struct {
	name string
	call func(arguments) ([]any, api.Errno)
}

func functions() []function {
	type a = arguments
	type r = []any
	type e = api.Errno
	return []function{
		{"CheckRaster", func(a a) (r, e) { _, e := plan.CheckRaster(a.Raster); return nil, e }},
		{"CheckCell", func(a a) (r, e) { return nil, plan.CheckCell(a.Raster, a.RasterCell) }},
		{"Sees", func(a a) (r, e) { return one(plan.Sees(a.Raster, a.RasterCell, a.At)) }},
		{"LevelAt", func(a a) (r, e) { return one(plan.LevelAt(a.Plan, a.PlanCell, a.PlanAt)) }},
		{"ServerAt", func(a a) (r, e) { return two(plan.ServerAt(a.Plan, a.PlanAt)) }},
		{"Holes", func(a a) (r, e) { return one(plan.Holes(a.Plan)) }},
		{"CoveredBy", func(a a) (r, e) { return one(plan.CoveredBy(a.Plan)) }},
		{"BestTilts", func(a a) (r, e) { return two(plan.BestTilts(a.Plan, a.Tilts)) }},
		{"MayRest", func(a a) (r, e) { return one(plan.MayRest(a.Plan, a.Resting)) }},
		{"MostResting", func(a a) (r, e) { return one(plan.MostResting(a.Plan)) }},
		{"NeighboursOf", func(a a) (r, e) { return one(plan.NeighboursOf(a.Plan, a.Margin)) }},
		{"CheckNet", func(a a) (r, e) { _, e := plan.CheckNet(a.Net); return nil, e }},
		{"Near", func(a a) (r, e) { return one(plan.Near(a.Net, a.NetCell)) }},
		{"FirstConfusion", func(a a) (r, e) { return one(plan.FirstConfusion(a.Net, a.Identities)) }},
		{"FewestKinds", func(a a) (r, e) { return two(plan.FewestKinds(a.Net)) }},
		{"CheckClique", func(a a) (r, e) { return one(plan.CheckClique(a.Net, a.Cells)) }},
		{"Clique", func(a a) (r, e) { return one(plan.Clique(a.Net)) }},
		{"RootsFor", func(a a) (r, e) { return one(plan.RootsFor(a.Net, a.Needs, a.All)) }},
		{"FirstRootClash", func(a a) (r, e) { return one(plan.FirstRootClash(a.Net, a.Needs, a.First)) }},
		{"CompareDrive", func(a a) (r, e) { return one(plan.CompareDrive(a.Plan, a.Drive)) }},
		{"FormatCell", func(a a) (r, e) { return r{plan.FormatCell(a.RasterCell)}, api.OK }},
		{"ParseCell", func(a a) (r, e) { return one(plan.ParseCell(a.Text)) }},
	}
}

func one[X any](x X, e api.Errno) ([]any, api.Errno) {
	return []any{x}, e
}

func two[X, Y any](x X, y Y, e api.Errno) ([]any, api.Errno) {
	return []any{x, y}, e
}

// mistake is a change that makes right arguments wrong: which of them, and the error of that.
type mistake struct {
	touches string
	change  func(*arguments)
	e       api.Errno
}

// wrong is a value that is not right, and its error.
type wrong[X any] struct {
	x X
	e api.Errno
}

// mistakes puts values that are not right into an argument.
func mistakes[X any](touches string, at func(*arguments) *X, all []wrong[X]) []mistake {
	var l []mistake
	for _, w := range all {
		l = append(l, mistake{touches, func(a *arguments) { *at(a) = w.x }, w.e})
	}
	return l
}

// beyond is mistakes of a number that is beyond a range.
func beyond(touches string, at func(*arguments) *int, lo, hi int, e api.Errno) []mistake {
	return mistakes(touches, at, []wrong[int]{{lo - 1, e}, {hi + 1, e}, {math.MinInt, e}, {math.MaxInt, e}})
}

// checkErrors makes right arguments wrong by each mistake, and by each two that touch different ones: the error of the earlier one comes, and beside it nothing.
func checkErrors(t *testing.T, name string, all ...[]mistake) {
	t.Helper()
	f := functionOf(name)
	right, e := f.call(rightArguments())
	if e != api.OK {
		t.Fatalf("%s of right arguments: error %d", name, e)
	}
	list := slices.Concat(all...)
	for i, x := range list {
		for j, y := range list[i:] {
			if j > 0 && x.touches == y.touches {
				continue
			}
			a := rightArguments()
			y.change(&a)
			x.change(&a)
			results, e := f.call(a)
			if e != x.e || !areNothing(results) || len(results) != len(right) {
				t.Errorf("%s, mistakes %d (%s) and %d (%s): %v, error %d, want error %d", name, i, x.touches, i+j, y.touches, results, e, x.e)
			}
		}
	}
}

func functionOf(name string) function {
	all := functions()
	return all[slices.IndexFunc(all, func(f function) bool { return f.name == name })]
}

// areNothing tells whether all results are zero values, or empty lists.
func areNothing(results []any) bool {
	return !slices.ContainsFunc(results, func(x any) bool { return !isNothing(reflect.ValueOf(x)) })
}

func isNothing(v reflect.Value) bool {
	if v.Kind() == reflect.Slice {
		return v.Len() == 0
	}
	return v.IsZero() // no struct of this package's results has a list
}

// upTo is a number from 0 to most, often an end.
func upTo(r *rand.Rand, most int) int {
	switch r.Intn(6) {
	case 0:
		return 0
	case 1:
		return most
	}
	return r.Intn(most + 1)
}

// randomRaster is often flat but for some hills.
func randomRaster(r *rand.Rand) api.PlanRaster {
	rows, columns := 1+upTo(r, 11), 1+upTo(r, 11)
	most := []int{0, 5, 60, 300, 5000}[r.Intn(5)]
	rare := 1 + r.Intn(4)
	var raster api.PlanRaster
	for range rows {
		heights := make([]int, columns)
		for column := range heights {
			if r.Intn(rare) == 0 {
				heights[column] = upTo(r, most)
			}
		}
		raster.Rows = append(raster.Rows, heights)
	}
	return raster
}

// randomPoint is one of a raster.
func randomPoint(r *rand.Rand, raster api.PlanRaster) [2]int {
	return [2]int{upTo(r, len(raster.Rows)-1), upTo(r, len(raster.Rows[0])-1)}
}

// randomCell is one of a raster.
func randomCell(r *rand.Rand, raster api.PlanRaster, number int) api.PlanCell {
	return api.PlanCell{
		Name:     fmt.Sprint("cell-", number),
		Identity: upTo(r, 1007),
		At:       randomPoint(r, raster),
		Mast:     1 + upTo(r, []int{1, 40, 199}[r.Intn(3)]),
		Power:    upTo(r, 400),
		Tilt:     upTo(r, 11),
	}
}

// randomLosses is a table that is often too short for all points, and sometimes falls.
func randomLosses(r *rand.Rand) []api.PlanLoss {
	squares := map[int]bool{}
	for range 1 + r.Intn(12) {
		squares[upTo(r, []int{10, 60, 300}[r.Intn(3)])] = true
	}
	var table []api.PlanLoss
	loss := r.Intn(500)
	for square := range 301 {
		if squares[square] {
			loss = max(0, loss+r.Intn(200)-40)
			table = append(table, api.PlanLoss{Square: square, Loss: loss})
		}
	}
	return table
}

// randomPlan is often one in which some points are covered and some are not.
func randomPlan(r *rand.Rand) api.PlanPlan {
	p := api.PlanPlan{
		Raster: randomRaster(r),
		Losses: randomLosses(r),
		Hidden: upTo(r, []int{30, 400, 3000}[r.Intn(3)]),
		Step:   upTo(r, []int{3, 40, 100}[r.Intn(3)]),
		Least:  upTo(r, 1000) - 800,
	}
	for cell := range 1 + upTo(r, 5) {
		p.Cells = append(p.Cells, randomCell(r, p.Raster, cell))
		if cell > 0 && r.Intn(6) == 0 { // it is like another one
			twin := p.Cells[r.Intn(cell)]
			twin.Name = p.Cells[cell].Name
			p.Cells[cell] = twin
		}
	}
	return p
}

// randomTilts is a set of some.
func randomTilts(r *rand.Rand) []int {
	tilts := r.Perm(12)[:1+r.Intn(4)]
	slices.Sort(tilts)
	return tilts
}

// randomSet is some of so many things, ascending.
func randomSet(r *rand.Rand, count int) []int {
	var set []int
	for n := range count {
		if r.Intn(2) == 0 {
			set = append(set, n)
		}
	}
	return set
}

// randomNet often has few pairs, so that not all cells are near one another. Some are rings.
func randomNet(r *rand.Rand) api.PlanNet {
	n := api.PlanNet{Cells: 1 + upTo(r, 7)}
	rare := 1 + r.Intn(8)
	isRing, ring := r.Intn(8) == 0, r.Perm(n.Cells)
	for a := range n.Cells {
		for b := a + 1; b < n.Cells; b++ {
			apart := (ring[a] - ring[b] + n.Cells) % n.Cells
			if isRing && (apart == 1 || apart == n.Cells-1) || !isRing && r.Intn(rare) == 0 {
				n.Pairs = append(n.Pairs, [2]int{a, b})
			}
		}
	}
	return n
}

// randomList is so many numbers from lo to hi.
func randomList(r *rand.Rand, count, lo, hi int) []int {
	var l []int
	for range count {
		l = append(l, lo+upTo(r, hi-lo))
	}
	return l
}

// randomDrive is measurements that are often about as the least level that covers.
func randomDrive(r *rand.Rand, p api.PlanPlan) []api.PlanDrive {
	var l []api.PlanDrive
	for range 1 + upTo(r, 59) {
		x := api.PlanDrive{At: randomPoint(r, p.Raster), Level: p.Least + r.Intn(200) - 100}
		if r.Intn(6) == 0 {
			x.Level = upTo(r, 3000) - 2000
		}
		l = append(l, x)
	}
	return l
}
