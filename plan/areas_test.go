package plan_test

import (
	"fmt"
	"math/rand"
	"slices"
	"testing"

	"downtilt/api"
	"downtilt/plan"
)

// expectTilts compares the best tilts, and how many points they cover.
func expectTilts(t *testing.T, p api.PlanPlan, tilts, want []int, count int) {
	t.Helper()
	best, most, e := plan.BestTilts(p, tilts)
	expect(t, fmt.Sprint("BestTilts ", p, tilts), []any{best, most}, e, []any{want, count}, api.OK)
}

// rowPlan is a flat plan of one row, whose cells cover just the points that they look at: those at 12 less the tilt steps.
func rowPlan(columns int, cells ...int) api.PlanPlan {
	p := api.PlanPlan{Raster: flat(1, columns), Losses: []api.PlanLoss{{Square: 300}}, Step: 1}
	for i, column := range cells {
		p.Cells = append(p.Cells, api.PlanCell{Name: fmt.Sprint("c", i), At: [2]int{0, column}, Mast: 1})
	}
	return p
}

func TestBestTilts(t *testing.T) {
	expectTilts(t, examplePlan(), []int{10}, []int{10}, 9)
	expectTilts(t, examplePlan(), []int{0, 5, 9}, []int{9}, 6) // 600 - 1300 - 50 - 200 is too low at 1, 2, at 2, 1 and at 2, 2
	expectTilts(t, examplePlan(), []int{0, 5, 9, 10}, []int{10}, 9)
	p := rowPlan(12, 5)
	expectTilts(t, p, []int{7}, []int{7}, 2)
	expectTilts(t, p, []int{6}, []int{6}, 1)
	expectTilts(t, p, []int{5, 6, 7, 8}, []int{7}, 2) // of several the first one
	expectTilts(t, p, []int{5, 6}, []int{6}, 1)
	expectTilts(t, p, []int{0, 5}, []int{0}, 0) // it covers nothing
	// both look at the other one with 11, and to both sides of themselves
	p = rowPlan(6, 2, 3)
	expectTilts(t, p, []int{11}, []int{11, 11}, 4)
	expectTilts(t, p, []int{10}, []int{10, 10}, 4)
	expectTilts(t, p, []int{10, 11}, []int{10, 10}, 4)
	expectTilts(t, p, []int{9}, []int{9, 9}, 2)
	expectTilts(t, p, []int{9, 10}, []int{10, 10}, 4)
	p = rowPlan(6, 0, 1)
	expectTilts(t, p, []int{7, 8, 9, 10}, []int{7, 9}, 2) // with 7 and 8 both cover the same point
	p = rowPlan(7, 0, 2, 4)
	expectTilts(t, p, []int{6, 8, 10}, []int{6, 10, 10}, 4)
	// a cell that covers nothing takes the first tilt
	p.Cells[1].Power = -5
	expectTilts(t, p, []int{6, 8, 10}, []int{8, 6, 10}, 3)
}

// slowTilts tries all lists in their order, with a plan of these tilts.
func slowTilts(p api.PlanPlan, tilts []int) ([]int, int) {
	var best []int
	most := -1
	p.Cells = slices.Clone(p.Cells)
	var try func(cell int)
	try = func(cell int) {
		if cell < len(p.Cells) {
			for _, tilt := range tilts {
				p.Cells[cell].Tilt = tilt
				try(cell + 1)
			}
			return
		}
		if count := len(allPoints(p.Raster)) - len(must(plan.Holes(p))); count > most {
			most, best = count, nil
			for _, c := range p.Cells {
				best = append(best, c.Tilt)
			}
		}
	}
	try(0)
	return best, most
}

// TestBestTiltsSlowly compares with slowTilts, and is P9.14.
func TestBestTiltsSlowly(t *testing.T) {
	r := rand.New(rand.NewSource(95))
	better, later := 0, 0
	for range 1000 {
		p, tilts := randomPlan(r), randomTilts(r)
		p.Cells = p.Cells[:min(3, len(p.Cells))]
		if r.Intn(2) == 0 {
			p.Step = 20 + r.Intn(81)
		}
		want, count := slowTilts(p, tilts)
		expectTilts(t, p, tilts, want, count)
		for i := range p.Cells {
			p.Cells[i].Tilt = tilts[r.Intn(len(tilts))]
		}
		covered := len(allPoints(p.Raster)) - len(must(plan.Holes(p)))
		if covered > count {
			t.Errorf("%v covers %d, with other tilts of %v no more than %d", p, covered, tilts, count)
		}
		if covered < count {
			better++
		}
		if slices.Max(want) > tilts[0] {
			later++
		}
	}
	if better < 50 || later < 100 {
		t.Errorf("%d times better, %d times not the first tilt", better, later)
	}
}

// TestBestTiltsOfMany is of as many cells and tilts as there may be.
func TestBestTiltsOfMany(t *testing.T) {
	p := rowPlan(12, 0, 0, 0, 11, 11, 11)
	expectTilts(t, p, []int{1, 4, 6, 9}, []int{1, 4, 6, 1, 4, 6}, 6)
	p = rowPlan(12, 0, 0, 0, 0, 0, 0)
	expectTilts(t, p, []int{8, 9, 10, 11}, []int{8, 8, 8, 9, 10, 11}, 4)
}

// TestRestExample is the example 3 of the chapter.
func TestRestExample(t *testing.T) {
	p := twoCells()
	for _, x := range []struct {
		cells []int
		want  bool
	}{{nil, true}, {[]int{}, true}, {[]int{0}, true}, {[]int{1}, true}, {[]int{0, 1}, false}} {
		may, e := plan.MayRest(p, x.cells)
		expect(t, fmt.Sprint("MayRest ", x.cells), may, e, x.want, api.OK)
	}
	cells, e := plan.MostResting(p)
	expect(t, "MostResting", cells, e, []int{0}, api.OK)
}

// expectMostResting compares the greatest set of cells that may rest.
func expectMostResting(t *testing.T, p api.PlanPlan, want ...int) {
	t.Helper()
	cells, e := plan.MostResting(p)
	expect(t, fmt.Sprint("MostResting ", p), cells, e, want, api.OK)
}

func TestRest(t *testing.T) {
	p := twoCells()
	p.Least = 1000 // no point is covered
	may, e := plan.MayRest(p, []int{0, 1})
	expect(t, "MayRest where nothing is covered", may, e, true, api.OK)
	expectMostResting(t, p, 0, 1)
	// cells that cover columns by themselves, by so many steps
	line := func(most int, columns ...int) api.PlanPlan {
		p := rowPlan(12, columns...)
		p.Step, p.Losses = 0, []api.PlanLoss{{Square: most * most}}
		return p
	}
	expectMostResting(t, line(0, 3))
	expectMostResting(t, line(0, 1, 2, 3))
	expectMostResting(t, line(0, 3, 3), 0)
	expectMostResting(t, line(0, 3, 4, 3, 3), 0, 2)
	expectMostResting(t, line(0, 3, 4, 4, 3, 3, 4), 0, 1, 2, 3)
	expectMostResting(t, line(1, 3, 4, 5), 1) // what 4 covers the others cover together
	expectMostResting(t, line(1, 3, 4, 5, 6), 1, 2)
	expectMostResting(t, line(1, 2, 3, 4, 5, 6), 1, 2) // or 1, 3, or 2, 3
	expectMostResting(t, line(1, 3, 6, 9))             // each one has points of its own
	expectMostResting(t, line(2, 2, 3, 4, 5, 6, 7), 1, 2, 3, 4)
	expectMostResting(t, line(11, 2, 3, 4), 0, 1)
	for _, x := range []struct {
		cells []int
		want  bool
	}{{[]int{1}, true}, {[]int{2}, true}, {[]int{2, 3}, true}, {[]int{1, 2, 3}, false}, {[]int{0}, false}, {[]int{4}, false}, {[]int{0, 1, 2, 3, 4}, false}} {
		may, e := plan.MayRest(line(1, 2, 3, 4, 5, 6), x.cells)
		expect(t, fmt.Sprint("MayRest ", x.cells), may, e, x.want, api.OK)
	}
	// a cell that serves points may rest if another one covers them, too
	p = examplePlan()
	weak := exampleCell()
	weak.Name, weak.Power, p.Least = "b", 500, -1000
	p.Cells = append(p.Cells, weak)
	expectMostResting(t, p, 0)
	p.Least = -999
	expectMostResting(t, p, 1)
}

// TestRestSlowly compares with slowMayRest and slowGreatest, and is P9.11.
func TestRestSlowly(t *testing.T) {
	r := rand.New(rand.NewSource(96))
	sizes, seen := map[int]int{}, map[bool]int{}
	for range 300 {
		p := randomPlan(r)
		cells := randomSet(r, len(p.Cells))
		may, e := plan.MayRest(p, cells)
		expect(t, fmt.Sprint("MayRest ", p, cells), may, e, slowMayRest(p, cells), api.OK)
		seen[may]++
		if may && len(cells) > 0 {
			at := r.Intn(len(cells))
			fewer, e := plan.MayRest(p, slices.Delete(slices.Clone(cells), at, at+1))
			expect(t, fmt.Sprint("MayRest of fewer than ", cells, p), fewer, e, true, api.OK)
		}
		most := must(plan.MostResting(p))
		want := slowGreatest(len(p.Cells), func(set []int) bool { return must(plan.MayRest(p, set)) })
		expectMostResting(t, p, want...)
		if !slowMayRest(p, most) {
			t.Errorf("%v may not rest in %v", most, p)
		}
		sizes[len(most)]++
	}
	if seen[true] < 60 || seen[false] < 60 {
		t.Errorf("seen %v", seen)
	}
	for size := range 7 {
		if sizes[size] < 5 {
			t.Errorf("%d resting cells: %d times", size, sizes[size])
		}
	}
}
