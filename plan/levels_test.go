package plan_test

import (
	"fmt"
	"math/rand"
	"slices"
	"testing"

	"downtilt/api"
	"downtilt/plan"
)

// expectLevel compares the level of a cell at a point.
func expectLevel(t *testing.T, p api.PlanPlan, cell int, at [2]int, want int, f api.Errno) {
	t.Helper()
	level, e := plan.LevelAt(p, cell, at)
	expect(t, fmt.Sprint("LevelAt ", p, cell, at), level, e, want, f)
}

// expectServer compares the server of a point, and its level.
func expectServer(t *testing.T, p api.PlanPlan, at [2]int, server, level int, f api.Errno) {
	t.Helper()
	cell, its, e := plan.ServerAt(p, at)
	expect(t, fmt.Sprint("ServerAt ", p, at), []int{cell, its}, e, []int{server, level}, f)
}

// expectHoles compares the holes.
func expectHoles(t *testing.T, p api.PlanPlan, want ...[2]int) {
	t.Helper()
	holes, e := plan.Holes(p)
	expect(t, fmt.Sprint("Holes ", p), holes, e, want, api.OK)
}

// TestLevelsExample is the example 2 of the chapter.
func TestLevelsExample(t *testing.T) {
	p := examplePlan()
	for _, x := range []struct {
		at   [2]int
		want int
	}{{[2]int{0, 2}, -700}, {[2]int{0, 1}, -450}, {[2]int{0, 0}, -500}, {[2]int{2, 2}, -900}} {
		expectLevel(t, p, 0, x.at, x.want, api.OK)
		expectServer(t, p, x.at, 0, x.want, api.OK)
	}
	expectHoles(t, p)
	p.Least = -899
	expectHoles(t, p, [2]int{1, 2}, [2]int{2, 1}, [2]int{2, 2})
	expectServer(t, p, [2]int{2, 2}, 0, -900, api.OK) // it is a hole
	counts, e := plan.CoveredBy(p)
	expect(t, "CoveredBy", counts, e, []int{6}, api.OK)
}

func TestLevels(t *testing.T) {
	p := examplePlan()
	p.Raster = flat(12, 12)
	p.Losses = []api.PlanLoss{{Square: 0, Loss: 3}, {Square: 1, Loss: 10}, {Square: 2, Loss: 5}, {Square: 5, Loss: 40}, {Square: 100, Loss: 3000}}
	p.Hidden, p.Cells[0].At = 1000, [2]int{4, 5}
	for _, x := range []struct {
		at   [2]int
		want int
		e    api.Errno
	}{
		{[2]int{4, 5}, 600 - 3 - 2*50, api.OK}, // its own point
		{[2]int{4, 6}, 600 - 10 - 1*50, api.OK},
		{[2]int{3, 5}, 600 - 10 - 1*50, api.OK},
		{[2]int{3, 4}, 600 - 5 - 1*50, api.OK}, // of a greater square, with less loss
		{[2]int{5, 4}, 600 - 5 - 1*50, api.OK},
		{[2]int{4, 3}, 600 - 40, api.OK}, // of a square between two of the table
		{[2]int{6, 6}, 600 - 40, api.OK},
		{[2]int{6, 7}, 600 - 3000, api.OK}, // the square 8, beyond 5
		{[2]int{1, 8}, 600 - 3000 - 50, api.OK},
		{[2]int{10, 10}, 600 - 3000 - 4*50, api.OK}, // 61; below MinLevel
		{[2]int{10, 11}, 600 - 3000 - 4*50, api.OK}, // 72
		{[2]int{11, 11}, 600 - 3000 - 5*50, api.OK}, // 85
		{[2]int{0, 0}, 600 - 3000 - 3*50, api.OK},   // 41
		{[2]int{11, 0}, 600 - 3000 - 5*50, api.OK},  // 74
	} {
		expectLevel(t, p, 0, x.at, x.want, x.e)
	}
	p.Losses = p.Losses[:4]
	expectLevel(t, p, 0, [2]int{6, 7}, 0, api.ErrNone)
	expectLevel(t, p, 0, [2]int{4, 7}, 600-40, api.OK)
	expectLevel(t, p, 0, [2]int{2, 6}, 600-40, api.OK)
	expectServer(t, p, [2]int{6, 7}, 0, 0, api.ErrNone)
	p.Losses = p.Losses[1:2]
	expectLevel(t, p, 0, [2]int{4, 5}, 600-10-2*50, api.OK)
	expectLevel(t, p, 0, [2]int{3, 4}, 0, api.ErrNone)
	p.Losses = []api.PlanLoss{{Square: 0, Loss: 7}}
	expectLevel(t, p, 0, [2]int{4, 5}, 600-7-2*50, api.OK)
	expectLevel(t, p, 0, [2]int{4, 4}, 0, api.ErrNone)
}

// TestTiltsOfLevels is of each tilt at each distance.
func TestTiltsOfLevels(t *testing.T) {
	p := examplePlan()
	p.Raster = flat(1, 12)
	p.Losses = []api.PlanLoss{{Square: 300, Loss: 0}}
	for tilt := range 12 {
		p.Cells[0].Tilt = tilt
		for column := range 12 {
			beside := 12 - tilt - column
			if beside < 0 {
				beside = -beside
			}
			expectLevel(t, p, 0, [2]int{0, column}, 600-50*beside, api.OK)
		}
	}
	p.Step = 0
	expectLevel(t, p, 0, [2]int{0, 0}, 600, api.OK)
}

// TestLeastLevel is of the least and the greatest level that there are.
func TestLeastLevel(t *testing.T) {
	p := api.PlanPlan{
		Raster: flat(12, 12),
		Cells:  []api.PlanCell{{Name: "a", Mast: 1, Power: -2000, Tilt: 11}},
		Losses: []api.PlanLoss{{Square: 242, Loss: 3000}},
		Hidden: 3000, Step: 100, Least: -2000,
	}
	p.Raster.Rows[3][3] = 5000
	expectLevel(t, p, 0, [2]int{11, 11}, -2000-3000-3000-1000, api.OK)
	expectServer(t, p, [2]int{11, 11}, 0, -9000, api.OK)
	p.Cells[0].Tilt = 0
	expectLevel(t, p, 0, [2]int{0, 0}, -2000-3000-1200, api.OK)
	p.Cells[0].Power, p.Losses[0].Loss, p.Least = 1000, 0, 1000
	p.Step = 0
	expectLevel(t, p, 0, [2]int{0, 0}, 1000, api.OK)
	holes, e := plan.Holes(p)
	expect(t, "number of holes", len(holes), e, 20, api.OK) // behind 3, 3: one at 4 and at 5 steps, three each from 6 to 11 steps
	p.Losses[0].Square = 241
	expectLevel(t, p, 0, [2]int{11, 11}, 0, api.ErrNone)
}

func TestServers(t *testing.T) {
	p := twoCells()
	expectServer(t, p, [2]int{0, 0}, 0, -500, api.OK)
	expectServer(t, p, [2]int{2, 2}, 1, -500, api.OK)
	expectServer(t, p, [2]int{0, 2}, 0, -700, api.OK) // of several the first one
	expectServer(t, p, [2]int{1, 2}, 1, -450, api.OK)
	counts, e := plan.CoveredBy(p)
	expect(t, "CoveredBy", counts, e, []int{6, 3}, api.OK)
	p.Cells[0].Power--
	expectServer(t, p, [2]int{0, 2}, 1, -700, api.OK)
	counts, e = plan.CoveredBy(p)
	expect(t, "CoveredBy", counts, e, []int{3, 6}, api.OK) // 0, 2 and 1, 1 and 2, 0 have gone over
	p.Cells[1].At = [2]int{0, 0}
	expectServer(t, p, [2]int{0, 0}, 1, -500, api.OK) // two at one point
	p.Cells[0].Power++
	expectServer(t, p, [2]int{0, 0}, 0, -500, api.OK)
	counts, e = plan.CoveredBy(p)
	expect(t, "CoveredBy of two at one point", counts, e, []int{9, 0}, api.OK)
	// where the first one has no level, or one that is far too low, another one serves
	p.Raster, p.Losses = flat(1, 6), []api.PlanLoss{{Square: 4, Loss: 0}}
	p.Cells[0].At, p.Cells[1].At = [2]int{0, 0}, [2]int{0, 5}
	p.Cells[0].Power, p.Cells[1].Power = -1000, -2000
	p.Step, p.Least = 0, -1500
	for column, want := range [][]int{{0, -1000}, {0, -1000}, {0, -1000}, {1, -2000}, {1, -2000}, {1, -2000}} {
		expectServer(t, p, [2]int{0, column}, want[0], want[1], api.OK)
	}
	expectHoles(t, p, [2]int{0, 3}, [2]int{0, 4}, [2]int{0, 5})
	counts, e = plan.CoveredBy(p)
	expect(t, "CoveredBy", counts, e, []int{3, 0}, api.OK)
	p.Losses[0].Square = 1
	expectServer(t, p, [2]int{0, 2}, 0, 0, api.ErrNone)
	expectHoles(t, p, [2]int{0, 2}, [2]int{0, 3}, [2]int{0, 4}, [2]int{0, 5})
	p.Least = 0 // no level is not 0
	expectHoles(t, p, allPoints(p.Raster)...)
	counts, e = plan.CoveredBy(p)
	expect(t, "CoveredBy without a covered point", counts, e, []int{0, 0}, api.OK)
}

// TestNoLevelCoversNothing is of levels below 0 that cover, and points without one that do not.
func TestNoLevelCoversNothing(t *testing.T) {
	p := examplePlan()
	p.Losses = p.Losses[:1]
	p.Least = -2000
	expectHoles(t, p, [2]int{0, 2}, [2]int{1, 2}, [2]int{2, 0}, [2]int{2, 1}, [2]int{2, 2})
	counts, e := plan.CoveredBy(p)
	expect(t, "CoveredBy", counts, e, []int{4}, api.OK)
	may, e := plan.MayRest(p, []int{0})
	expect(t, "MayRest", may, e, false, api.OK)
	tilts, count, e := plan.BestTilts(p, []int{3})
	expect(t, "BestTilts", fmt.Sprint(tilts, count), e, "[3] 4", api.OK)
}

// TestLevelsSlowly compares with slowLevel and slowServer, and is P9.15.
func TestLevelsSlowly(t *testing.T) {
	r := rand.New(rand.NewSource(92))
	seen, full, empty, some := map[api.Errno]int{}, 0, 0, 0
	for range 600 {
		p := randomPlan(r)
		for range 8 {
			cell, at := r.Intn(len(p.Cells)), randomPoint(r, p.Raster)
			want, f := 0, api.ErrNone
			if level := slowLevel(p, cell, at); level != nil {
				want, f = *level, api.OK
			}
			expectLevel(t, p, cell, at, want, f)
			seen[f]++
		}
		var wantHoles [][2]int
		wantCounts := make([]int, len(p.Cells))
		for _, at := range allPoints(p.Raster) {
			server, level := slowServer(p, at)
			if level == nil || *level < p.Least {
				wantHoles = append(wantHoles, at)
			} else {
				wantCounts[server]++
			}
			if level == nil {
				expectServer(t, p, at, 0, 0, api.ErrNone)
			} else {
				expectServer(t, p, at, server, *level, api.OK)
			}
		}
		expectHoles(t, p, wantHoles...)
		counts, e := plan.CoveredBy(p)
		expect(t, fmt.Sprint("CoveredBy ", p), counts, e, wantCounts, api.OK)
		points := len(allPoints(p.Raster))
		sum := len(must(plan.Holes(p)))
		for _, count := range counts {
			sum += count
		}
		if sum != points {
			t.Errorf("%v has %d points, %d are counted", p, points, sum)
		}
		switch len(wantHoles) {
		case 0:
			full++
		case points:
			empty++
		default:
			some++
		}
	}
	if seen[api.OK] < 800 || seen[api.ErrNone] < 200 || full < 50 || empty < 50 || some < 100 {
		t.Errorf("levels %v, %d plans without holes, %d of holes, %d others", seen, full, empty, some)
	}
}

// TestMoreCoversMore is P9.10.
func TestMoreCoversMore(t *testing.T) {
	r := rand.New(rand.NewSource(93))
	fewer := 0
	for range 600 {
		p := randomPlan(r)
		more := p
		more.Cells = slices.Clone(p.Cells)
		switch r.Intn(3) {
		case 0:
			more.Cells[r.Intn(len(p.Cells))].Power += 1 + r.Intn(300)
		case 1:
			more.Least -= 1 + r.Intn(100)
		case 2:
			if len(p.Cells) < api.MaxPlanCells {
				more.Cells = slices.Insert(more.Cells, r.Intn(len(p.Cells)+1), randomCell(r, p.Raster, 9))
			}
		}
		before, behind := must(plan.Holes(p)), must(plan.Holes(more))
		for _, hole := range behind {
			if !slices.Contains(before, hole) {
				t.Errorf("%v is a hole of %v, and none of %v", hole, more, p)
			}
		}
		if len(behind) < len(before) {
			fewer++
		}
	}
	if fewer < 100 {
		t.Errorf("%d times fewer", fewer)
	}
}

// expectNeighbours compares the pairs of cells that are neighbours.
func expectNeighbours(t *testing.T, p api.PlanPlan, margin int, want ...[2]int) {
	t.Helper()
	pairs, e := plan.NeighboursOf(p, margin)
	expect(t, fmt.Sprint("NeighboursOf ", p, margin), pairs, e, want, api.OK)
}

func TestNeighbours(t *testing.T) {
	p := twoCells()
	pair := [2]int{0, 1}
	expectNeighbours(t, p, 0, pair) // at 0, 2, both with -700
	p.Least = -700
	expectNeighbours(t, p, 0, pair)
	p.Least = -699
	expectNeighbours(t, p, 0, pair) // at 1, 1
	p.Least = -450
	expectNeighbours(t, p, 0, pair)
	p.Least = -449
	expectNeighbours(t, p, 1000)
	expectNeighbours(t, examplePlan(), 1000)
	// one point, at which levels differ by 100
	p.Raster, p.Cells[1].At, p.Cells[1].Power, p.Least = flat(1, 1), [2]int{0, 0}, 700, -500
	expectNeighbours(t, p, 100, pair)
	expectNeighbours(t, p, 99)
	p.Cells[0], p.Cells[1] = p.Cells[1], p.Cells[0]
	expectNeighbours(t, p, 100, pair)
	expectNeighbours(t, p, 99)
	p.Least = -499 // one of them does not cover
	expectNeighbours(t, p, 100)
	p.Cells[0], p.Cells[1] = p.Cells[1], p.Cells[0]
	expectNeighbours(t, p, 100)
	p.Cells[0].Power, p.Least = 1000, -2000
	p.Cells[1].Power = 0
	expectNeighbours(t, p, 1000, pair)
	expectNeighbours(t, p, 999)
	p.Cells[1].Power = -1
	expectNeighbours(t, p, 1000)
	// both cover something, but no point together, or no one with about the same level
	p = twoCells()
	p.Raster, p.Cells[0].At, p.Cells[1].At = flat(1, 6), [2]int{0, 0}, [2]int{0, 5}
	p.Losses, p.Step, p.Least = []api.PlanLoss{{Square: 4, Loss: 0}}, 0, -2000
	expectNeighbours(t, p, 1000)
	p.Losses[0].Square = 9
	expectNeighbours(t, p, 0, pair)
	p.Losses = []api.PlanLoss{{Square: 4, Loss: 0}, {Square: 9, Loss: 10}}
	expectNeighbours(t, p, 9)
	expectNeighbours(t, p, 10, pair)
	p.Least = 590
	expectNeighbours(t, p, 10, pair)
	p.Least = 591
	expectNeighbours(t, p, 10)
	// no level is not the level 0
	p.Losses, p.Least = []api.PlanLoss{{Square: 4, Loss: 600}}, -2000
	expectNeighbours(t, p, 1000)
}

// TestNeighboursSlowly looks at each point.
func TestNeighboursSlowly(t *testing.T) {
	r := rand.New(rand.NewSource(94))
	pairs, others := 0, 0
	for range 200 {
		p, margin := randomPlan(r), upTo(r, []int{5, 100, 1000}[r.Intn(3)])
		var want [][2]int
		for a := range p.Cells {
			for b := a + 1; b < len(p.Cells); b++ {
				isPair := false
				for _, at := range allPoints(p.Raster) {
					x, y := slowLevel(p, a, at), slowLevel(p, b, at)
					if x != nil && y != nil && *x >= p.Least && *y >= p.Least && *x-*y <= margin && *y-*x <= margin {
						isPair = true
					}
				}
				if isPair {
					want = append(want, [2]int{a, b})
					pairs++
				} else {
					others++
				}
			}
		}
		expectNeighbours(t, p, margin, want...)
	}
	if pairs < 200 || others < 200 {
		t.Errorf("%d pairs, and %d others", pairs, others)
	}
}
