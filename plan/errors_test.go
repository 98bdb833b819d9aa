package plan_test

import (
	"math"
	"slices"
	"testing"

	"downtilt/api"
	"downtilt/plan"
)

// rasterErrors are of a raster: the errors of CheckRaster without its mark.
func rasterErrors(at func(*arguments) *api.PlanRaster) []mistake {
	type rows = [][]int
	return mistakes("raster", func(a *arguments) *[][]int { return &at(a).Rows }, []wrong[rows]{
		{nil, api.ErrShape},
		{flat(13, 3).Rows, api.ErrLarge},
		{rows{{}, {}, {}}, api.ErrShape},
		{rows{{0, 0, 0}, {0, 0}, {0, 0, 0}}, api.ErrShape},
		{rows{{0, 0, 0}, {0, 0, 0}, {}}, api.ErrShape},
		{flat(3, 13).Rows, api.ErrLarge},
		{rows{{0, 0, 0}, {0, -1, 0}, {0, 0, 0}}, api.ErrRange},
		{rows{{0, 0, 0}, {0, 0, 0}, {0, 0, 5001}}, api.ErrRange},
		{rows{{math.MinInt, 0, 0}, {0, 0, 0}, {0, 0, math.MaxInt}}, api.ErrRange},
	})
}

// pointErrors are of a point of a raster with three rows and columns.
func pointErrors(touches string, at func(*arguments) *[2]int) []mistake {
	return slices.Concat(
		beyond(touches, func(a *arguments) *int { return &at(a)[0] }, 0, 2, api.ErrMissing),
		beyond(touches, func(a *arguments) *int { return &at(a)[1] }, 0, 2, api.ErrMissing),
		mistakes(touches, at, []wrong[[2]int]{{[2]int{-1, 3}, api.ErrMissing}, {[2]int{math.MaxInt, math.MaxInt}, api.ErrMissing}}))
}

// cellErrors are of a cell on that raster, in groups that do not touch one another.
func cellErrors(touches string, at func(*arguments) *api.PlanCell) []mistake {
	return slices.Concat(
		mistakes(touches+"name", func(a *arguments) *string { return &at(a).Name }, []wrong[string]{
			{"", api.ErrName}, {"1", api.ErrName}, {"-a", api.ErrName}, {"a b", api.ErrName}, {"a_", api.ErrName}, {"abcdefghijklm", api.ErrName}, {"\xff", api.ErrName}, {"é", api.ErrName},
			{"@", api.ErrName}, {"[", api.ErrName}, {"`", api.ErrName}, {"{", api.ErrName}, {"a/", api.ErrName}, {"a:", api.ErrName}, {"a.", api.ErrName},
		}),
		beyond(touches+"identity", func(a *arguments) *int { return &at(a).Identity }, 0, 1007, api.ErrRange),
		pointErrors(touches+"point", func(a *arguments) *[2]int { return &at(a).At }),
		beyond(touches+"mast", func(a *arguments) *int { return &at(a).Mast }, 1, 200, api.ErrRange),
		beyond(touches+"power", func(a *arguments) *int { return &at(a).Power }, -2000, 1000, api.ErrRange),
		beyond(touches+"tilt", func(a *arguments) *int { return &at(a).Tilt }, 0, 11, api.ErrRange))
}

func TestErrorsOfRastersAndCells(t *testing.T) {
	raster := rasterErrors(func(a *arguments) *api.PlanRaster { return &a.Raster })
	cell := cellErrors("", func(a *arguments) *api.PlanCell { return &a.RasterCell })
	point := pointErrors("at", func(a *arguments) *[2]int { return &a.At })
	checkErrors(t, "CheckRaster", raster)
	checkErrors(t, "CheckCell", raster, cell)
	checkErrors(t, "Sees", raster, cell, point)
	for _, x := range []struct {
		r  api.PlanRaster
		at [2]int
	}{{flat(1, 12), [2]int{1, 0}}, {flat(12, 1), [2]int{0, 1}}} { // rows are not columns
		c := exampleCell()
		sees, e := plan.Sees(x.r, c, x.at)
		expect(t, "Sees beyond a narrow raster", sees, e, false, api.ErrMissing)
		c.At = x.at
		e = plan.CheckCell(x.r, c)
		expect(t, "CheckCell beyond a narrow raster", e, e, api.ErrMissing, api.ErrMissing)
	}
}

// planErrors are of the plan of the right arguments.
func planErrors() []mistake {
	type cells = []api.PlanCell
	type table = []api.PlanLoss
	first, second := twoCells().Cells[0], twoCells().Cells[1]
	twin, nameless := second, second
	twin.Name, nameless.Name = "a", ""
	far := first
	far.Tilt = 12
	return slices.Concat(
		rasterErrors(func(a *arguments) *api.PlanRaster { return &a.Plan.Raster }),
		mistakes("cells", func(a *arguments) *cells { return &a.Plan.Cells }, []wrong[cells]{
			{nil, api.ErrShape},
			{make(cells, 7), api.ErrLarge},
			{cells{first, second, first, first, first, first, first}, api.ErrLarge},
			{cells{nameless, second}, api.ErrName},
			{cells{first, nameless}, api.ErrName},
			{cells{first, twin}, api.ErrExists},
			{cells{first, second, second}, api.ErrExists},
			{cells{first, second, first}, api.ErrExists},
			{cells{first, twin, nameless}, api.ErrExists}, // cell by cell
			{cells{first, nameless, twin}, api.ErrName},
			{cells{first, far}, api.ErrRange}, // ahead of ErrExists
			{cells{far, twin}, api.ErrRange},
			{cells{{Name: "a", At: [2]int{3, 0}}, nameless}, api.ErrMissing},
		}),
		mistakes("table", func(a *arguments) *table { return &a.Plan.Losses }, []wrong[table]{
			{nil, api.ErrShape},
			{make(table, 13), api.ErrLarge},
			{slices.Repeat(table{{Square: -1}}, 13), api.ErrLarge},
			{table{{Square: -1}}, api.ErrRange},
			{table{{Square: 301}}, api.ErrRange},
			{table{{Loss: -1}}, api.ErrRange},
			{table{{Loss: 3001}}, api.ErrRange},
			{table{{Square: math.MinInt}}, api.ErrRange},
			{table{{Square: math.MaxInt}}, api.ErrRange},
			{table{{Loss: math.MinInt}}, api.ErrRange},
			{table{{Loss: math.MaxInt}}, api.ErrRange},
			{table{{Square: 5}, {Square: 5}}, api.ErrOrder},
			{table{{Square: 5}, {Square: 4}}, api.ErrOrder},
			{table{{Square: 0}, {Square: 0}}, api.ErrOrder},
			{table{{Square: 5}, {Square: 6}, {Square: 6}}, api.ErrOrder},
			{table{{Square: 5}, {Square: 4, Loss: 3001}}, api.ErrRange}, // ahead of ErrOrder
			{table{{Square: 5}, {Square: -1}}, api.ErrRange},
			{table{{Square: 5}, {Square: 5}, {Square: 301}}, api.ErrOrder}, // row by row
			{table{{Square: 5}, {Square: 301}, {Square: 5}}, api.ErrRange},
		}),
		beyond("hidden", func(a *arguments) *int { return &a.Plan.Hidden }, 0, 3000, api.ErrRange),
		beyond("step", func(a *arguments) *int { return &a.Plan.Step }, 0, 100, api.ErrRange),
		beyond("least", func(a *arguments) *int { return &a.Plan.Least }, -2000, 1000, api.ErrRange))
}

// planCellErrors are of the last cell of the plan of the right arguments.
func planCellErrors() []mistake {
	return cellErrors("cells", func(a *arguments) *api.PlanCell { return &a.Plan.Cells[1] })
}

// setErrors are of sets of numbers below count.
func setErrors(touches string, at func(*arguments) *[]int, count int) []mistake {
	type set = []int
	return mistakes(touches, at, []wrong[set]{
		{set{-1}, api.ErrMissing},
		{set{count}, api.ErrMissing},
		{set{0, math.MaxInt}, api.ErrMissing},
		{set{math.MinInt, 0}, api.ErrMissing},
		{set{1, -1}, api.ErrMissing}, // ahead of ErrOrder
		{set{0, 0}, api.ErrOrder},
		{set{1, 1}, api.ErrOrder},
		{set{1, 0}, api.ErrOrder},
		{set{0, 1, 1}, api.ErrOrder},
		{set{0, 1, 0}, api.ErrOrder},
		{set{0, 0, count}, api.ErrOrder}, // one by one
		{set{0, count, 0}, api.ErrMissing},
		{set{0, 1, count}, api.ErrMissing},
	})
}

func TestErrorsOfPlans(t *testing.T) {
	for _, name := range []string{"Holes", "CoveredBy", "MostResting"} {
		checkErrors(t, name, planErrors())
		checkErrors(t, name, planCellErrors())
	}
	at := pointErrors("at", func(a *arguments) *[2]int { return &a.PlanAt })
	cell := beyond("cell", func(a *arguments) *int { return &a.PlanCell }, 0, 1, api.ErrMissing)
	farOff := mistakes("table", func(a *arguments) *[]api.PlanLoss { return &a.Plan.Losses }, []wrong[[]api.PlanLoss]{{[]api.PlanLoss{{Square: 0}}, api.ErrNone}})
	checkErrors(t, "LevelAt", planErrors(), cell, at, farOff)
	checkErrors(t, "LevelAt", planCellErrors(), cell, at)
	checkErrors(t, "ServerAt", planErrors(), at, farOff)
	checkErrors(t, "ServerAt", planCellErrors(), at)
	type list = []int
	tilts := mistakes("tilts", func(a *arguments) *list { return &a.Tilts }, []wrong[list]{
		{nil, api.ErrShape},
		{list{0, 1, 2, 3, 4}, api.ErrLarge},
		{list{-1, -1, -1, -1, -1}, api.ErrLarge},
		{list{-1}, api.ErrRange},
		{list{12}, api.ErrRange},
		{list{math.MinInt}, api.ErrRange},
		{list{math.MaxInt}, api.ErrRange},
		{list{0, 1, 2, 12}, api.ErrRange},
		{list{3, 3}, api.ErrOrder},
		{list{0, 0}, api.ErrOrder},
		{list{3, 2}, api.ErrOrder},
		{list{1, 3, 2}, api.ErrOrder},
		{list{3, -1}, api.ErrRange}, // ahead of ErrOrder
		{list{3, 2, 12}, api.ErrOrder},
		{list{3, 12, 2}, api.ErrRange},
	})
	checkErrors(t, "BestTilts", planErrors(), tilts)
	checkErrors(t, "BestTilts", planCellErrors(), tilts)
	resting := setErrors("resting", func(a *arguments) *[]int { return &a.Resting }, 2)
	checkErrors(t, "MayRest", planErrors(), resting)
	checkErrors(t, "MayRest", planCellErrors(), resting)
	margin := beyond("margin", func(a *arguments) *int { return &a.Margin }, 0, 1000, api.ErrRange)
	checkErrors(t, "NeighboursOf", planErrors(), margin)
	checkErrors(t, "NeighboursOf", planCellErrors(), margin)
}

func TestErrorsOfDrives(t *testing.T) {
	type drive = []api.PlanDrive
	drives := mistakes("drive", func(a *arguments) *drive { return &a.Drive }, []wrong[drive]{
		{nil, api.ErrShape},
		{make(drive, 61), api.ErrLarge},
		{slices.Repeat(driveOf(-1, 0, 0), 61), api.ErrLarge},
		{driveOf(3, 0, 0), api.ErrMissing},
		{driveOf(0, 3, 0), api.ErrMissing},
		{driveOf(0, -1, 0), api.ErrMissing},
		{driveOf(-1, 0, 5000), api.ErrMissing}, // ahead of ErrRange
		{driveOf(0, 0, 1001), api.ErrRange},
		{driveOf(0, 0, -2001), api.ErrRange},
		{driveOf(0, 0, math.MaxInt), api.ErrRange},
		{driveOf(0, 0, 0, 2, 2, math.MinInt), api.ErrRange},
		{driveOf(0, 0, 1001, 3, 0, 0), api.ErrRange}, // one by one
		{driveOf(0, 0, 0, 3, 0, 0, 0, 0, 1001), api.ErrMissing},
	})
	checkErrors(t, "CompareDrive", planErrors(), drives)
	checkErrors(t, "CompareDrive", planCellErrors(), drives)
	p := twoCells()
	p.Losses = []api.PlanLoss{{Square: 0}}
	for _, w := range []wrong[drive]{{driveOf(1, 2, 0), api.ErrNone}, {driveOf(1, 2, 1001), api.ErrRange}, {driveOf(0, 0, 0, 3, 0, 0), api.ErrMissing}} {
		got, e := plan.CompareDrive(p, w.x)
		expect(t, "CompareDrive where few points have a level", got, e, api.PlanCompared{}, w.e)
	}
}

// netErrors are of the net of the right arguments.
func netErrors() []mistake {
	type pairs = [][2]int
	return slices.Concat(
		beyond("cells of the net", func(a *arguments) *int { return &a.Net.Cells }, 1, 8, api.ErrRange),
		mistakes("pairs", func(a *arguments) *pairs { return &a.Net.Pairs }, []wrong[pairs]{
			{make(pairs, 65), api.ErrLarge},
			{pairs{{0, 4}}, api.ErrMissing},
			{pairs{{0, 1}, {-1, 2}}, api.ErrMissing},
			{pairs{{math.MaxInt, math.MinInt}}, api.ErrMissing},
			{pairs{{1, 1}}, api.ErrOrder},
			{pairs{{2, 1}}, api.ErrOrder},
			{pairs{{0, 1}, {0, 1}}, api.ErrOrder},
			{pairs{{1, 2}, {0, 3}}, api.ErrOrder},
		}))
}

// listErrors are of a list of four numbers in a range.
func listErrors(touches string, at func(*arguments) *[]int, lo, hi int) []mistake {
	type list = []int
	return mistakes(touches, at, []wrong[list]{
		{nil, api.ErrShape},
		{list{lo, lo, lo}, api.ErrShape},
		{list{lo, lo, lo, lo, lo}, api.ErrShape},
		{list{lo - 1, lo, lo}, api.ErrShape},
		{list{lo - 1, lo, lo, lo}, api.ErrRange},
		{list{lo, hi + 1, lo, lo}, api.ErrRange},
		{list{lo, hi, lo - 1, lo}, api.ErrRange},
		{list{lo, hi, lo, hi + 1}, api.ErrRange},
		{list{lo, hi, lo, math.MaxInt}, api.ErrRange},
		{list{math.MinInt, hi, lo, lo}, api.ErrRange},
	})
}

func TestErrorsOfNets(t *testing.T) {
	type list = []int
	checkErrors(t, "CheckNet", netErrors())
	checkErrors(t, "FewestKinds", netErrors())
	checkErrors(t, "Clique", netErrors())
	checkErrors(t, "Near", netErrors(), beyond("cell of the net", func(a *arguments) *int { return &a.NetCell }, 0, 3, api.ErrMissing))
	identities := func(a *arguments) *list { return &a.Identities }
	checkErrors(t, "FirstConfusion", netErrors(), listErrors("identities", identities, 0, 1007),
		mistakes("identities", identities, []wrong[list]{{list{5, 6, 7, 5}, api.ErrNone}}))
	cells := func(a *arguments) *list { return &a.Cells }
	checkErrors(t, "CheckClique", netErrors(),
		mistakes("cells", cells, []wrong[list]{{nil, api.ErrShape}}),
		setErrors("cells", cells, 4),
		mistakes("cells", cells, []wrong[list]{{list{0, 3}, api.ErrClash}}))
	needs := listErrors("needs", func(a *arguments) *list { return &a.Needs }, 1, 20)
	all := func(a *arguments) *int { return &a.All }
	checkErrors(t, "RootsFor", netErrors(), needs, beyond("all", all, 1, 138, api.ErrRange), mistakes("all", all, []wrong[int]{{11, api.ErrFull}, {1, api.ErrFull}}))
	first := func(a *arguments) *list { return &a.First }
	checkErrors(t, "FirstRootClash", netErrors(), needs, listErrors("first", first, 0, 137),
		mistakes("first", first, []wrong[list]{{list{0, 4, 8, 0}, api.ErrNone}}))
	for _, l := range []list{{0, 0, 0, 0}, {1007, 1007, 1007, 1007}} {
		pair, e := plan.FirstConfusion(rowOf(4), l)
		expect(t, "FirstConfusion of the same identities", pair, e, [2]int{0, 1}, api.OK)
	}
}
