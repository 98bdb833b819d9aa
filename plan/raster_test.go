package plan_test

import (
	"fmt"
	"math"
	"math/rand"
	"slices"
	"testing"

	"downtilt/api"
	"downtilt/plan"
)

// flat is a raster without hills.
func flat(rows, columns int) api.PlanRaster {
	var r api.PlanRaster
	for range rows {
		r.Rows = append(r.Rows, make([]int, columns))
	}
	return r
}

func TestRasters(t *testing.T) {
	type rows = [][]int
	long := make([]int, 13)
	high := func(row, column, height int) rows {
		r := flat(12, 12)
		r.Rows[row][column] = height
		return r.Rows
	}
	for _, x := range []struct {
		rows rows
		mark [2]int
		e    api.Errno
	}{
		{nil, [2]int{}, api.ErrShape},
		{rows{}, [2]int{}, api.ErrShape},
		{make(rows, 13), [2]int{}, api.ErrLarge},
		{flat(13, 1).Rows, [2]int{}, api.ErrLarge},
		{rows{{}}, [2]int{}, api.ErrShape},
		{rows{{}, {1}}, [2]int{}, api.ErrShape},
		{rows{{1}, {}}, [2]int{1, 0}, api.ErrShape},
		{rows{{1, 2}, {1, 2}, {1}}, [2]int{2, 0}, api.ErrShape},
		{rows{{1, 2}, {1, 2, 3}, {1}}, [2]int{1, 0}, api.ErrShape},
		{rows{{1, 2}, long}, [2]int{1, 0}, api.ErrShape},
		{rows{long}, [2]int{}, api.ErrLarge},
		{rows{long, {1}}, [2]int{}, api.ErrLarge},
		{rows{append(slices.Clone(long[:12]), -1)}, [2]int{}, api.ErrLarge},
		{rows{{0, -1}}, [2]int{0, 1}, api.ErrRange},
		{rows{{0, -1}, {5}}, [2]int{0, 1}, api.ErrRange}, // row by row
		{rows{{0, 0}, {5}, {0, -1}}, [2]int{1, 0}, api.ErrShape},
		{rows{{0, 0}, {5, 5001}, {-1, 0}}, [2]int{1, 1}, api.ErrRange},
		{rows{{0, 0, 5001, -1}}, [2]int{0, 2}, api.ErrRange},
		{high(0, 0, -1), [2]int{0, 0}, api.ErrRange},
		{high(11, 11, 5001), [2]int{11, 11}, api.ErrRange},
		{high(11, 0, math.MinInt), [2]int{11, 0}, api.ErrRange},
		{high(0, 11, math.MaxInt), [2]int{0, 11}, api.ErrRange},
		{high(3, 4, 5000), [2]int{}, api.OK},
		{flat(12, 12).Rows, [2]int{}, api.OK},
		{flat(1, 12).Rows, [2]int{}, api.OK},
		{flat(12, 1).Rows, [2]int{}, api.OK},
		{rows{{0}}, [2]int{}, api.OK},
		{rows{{5000}}, [2]int{}, api.OK},
		{exampleRaster().Rows, [2]int{}, api.OK},
	} {
		mark, e := plan.CheckRaster(api.PlanRaster{Rows: x.rows})
		expect(t, fmt.Sprint("CheckRaster ", x.rows), mark, e, x.mark, x.e)
	}
}

func TestCells(t *testing.T) {
	for _, x := range []struct {
		c api.PlanCell
		e api.Errno
	}{
		{exampleCell(), api.OK},
		{api.PlanCell{Name: "Z", Mast: 1, Power: -2000}, api.OK},
		{api.PlanCell{Name: "abcdefghijkl", Identity: 1007, At: [2]int{2, 2}, Mast: 200, Power: 1000, Tilt: 11}, api.OK},
		{api.PlanCell{Name: "a-z-A-Z-0-9", Mast: 1, At: [2]int{0, 2}}, api.OK},
		{api.PlanCell{Name: "z", Mast: 1, At: [2]int{2, 0}}, api.OK},
		{api.PlanCell{Name: "A", Mast: 1}, api.OK},
		{api.PlanCell{}, api.ErrName},
		{api.PlanCell{Name: "a"}, api.ErrRange},
	} {
		e := plan.CheckCell(exampleRaster(), x.c)
		expect(t, fmt.Sprint("CheckCell ", x.c), e, e, x.e, x.e)
	}
	c := exampleCell()
	c.At = [2]int{11, 0}
	e := plan.CheckCell(flat(12, 1), c)
	expect(t, "CheckCell in the last row", e, e, api.OK, api.OK)
	c.At = [2]int{0, 11}
	e = plan.CheckCell(flat(1, 12), c)
	expect(t, "CheckCell in the last column", e, e, api.OK, api.OK)
}

// expectSeen looks whether a cell of a height sees a point.
func expectSeen(t *testing.T, rows [][]int, from [2]int, mast int, to [2]int, want bool) {
	t.Helper()
	c := exampleCell()
	c.At, c.Mast = from, mast
	got, e := plan.Sees(api.PlanRaster{Rows: rows}, c, to)
	expect(t, fmt.Sprintf("Sees on %v from %v, %d over ground, to %v", rows, from, mast, to), got, e, want, api.OK)
}

// TestSeesExample is the example 1 of the chapter.
func TestSeesExample(t *testing.T) {
	rows := exampleRaster().Rows
	expectSeen(t, rows, [2]int{0, 0}, 30, [2]int{0, 2}, true)
	expectSeen(t, rows, [2]int{0, 0}, 30, [2]int{2, 2}, false)
	expectSeen(t, rows, [2]int{0, 0}, 30, [2]int{1, 2}, false)
	expectSeen(t, [][]int{{0, 16, 0}}, [2]int{0, 0}, 30, [2]int{0, 2}, true) // the line is at 16
	expectSeen(t, [][]int{{0, 17, 0}}, [2]int{0, 0}, 30, [2]int{0, 2}, false)
}

func TestSees(t *testing.T) {
	type rows = [][]int
	type point = [2]int
	for _, x := range []struct {
		rows rows
		from point
		mast int
		to   point
		want bool
	}{
		// nothing stands between neighbouring points, or at the own one
		{rows{{0, 5000}}, point{0, 0}, 1, point{0, 1}, true},
		{rows{{5000, 0}}, point{0, 0}, 1, point{0, 1}, true},
		{rows{{0, 5000}, {5000, 0}}, point{0, 0}, 1, point{1, 1}, true},
		{rows{{7}}, point{0, 0}, 1, point{0, 0}, true},
		// the ground below the cell and below the phone counts
		{rows{{100, 116, 100}}, point{0, 0}, 30, point{0, 2}, true},
		{rows{{100, 117, 100}}, point{0, 0}, 30, point{0, 2}, false},
		{rows{{0, 26, 20}}, point{0, 0}, 30, point{0, 2}, true},
		{rows{{0, 27, 20}}, point{0, 0}, 30, point{0, 2}, false},
		{rows{{20, 26, 0}}, point{0, 0}, 30, point{0, 2}, true},
		{rows{{20, 27, 0}}, point{0, 0}, 30, point{0, 2}, false},
		// where it is higher is no matter: the line is at 23 and 12 (with 2 at the end), or at 22.67 and 12.33 of thirds
		{rows{{0, 22, 12, 0}}, point{0, 0}, 33, point{0, 3}, true},
		{rows{{0, 23, 12, 0}}, point{0, 0}, 33, point{0, 3}, false},
		{rows{{0, 22, 13, 0}}, point{0, 0}, 33, point{0, 3}, false},
		// up and down the columns, and both ways
		{rows{{0}, {16}, {0}}, point{0, 0}, 30, point{2, 0}, true},
		{rows{{0}, {17}, {0}}, point{2, 0}, 30, point{0, 0}, false},
		{rows{{0, 17, 0}}, point{0, 2}, 30, point{0, 0}, false},
		{rows{{0, 16, 0}}, point{0, 2}, 30, point{0, 0}, true},
		{rows{{0, 0, 0}, {0, 17, 0}, {0, 0, 0}}, point{2, 0}, 30, point{0, 2}, false},
		{rows{{17, 17, 0}, {17, 16, 17}, {0, 17, 17}}, point{2, 0}, 30, point{0, 2}, true},
		{rows{{0, 17, 17}, {17, 16, 17}, {17, 17, 0}}, point{0, 0}, 30, point{2, 2}, true},
		// a half is rounded up, from wherever
		{rows{{0, 0, 0}, {0, 50, 0}}, point{0, 0}, 30, point{1, 2}, false},
		{rows{{0, 50, 0}, {0, 0, 0}}, point{0, 0}, 30, point{1, 2}, true},
		{rows{{0, 0, 0}, {0, 50, 0}}, point{1, 2}, 30, point{0, 0}, false},
		{rows{{0, 50, 0}, {0, 0, 0}}, point{1, 2}, 30, point{0, 0}, true},
		{rows{{0, 50, 0}, {0, 0, 0}}, point{1, 0}, 30, point{0, 2}, true},
		{rows{{0, 0, 0}, {0, 50, 0}}, point{1, 0}, 30, point{0, 2}, false},
		{rows{{0, 0}, {50, 0}, {0, 0}}, point{0, 0}, 30, point{2, 1}, true},
		{rows{{0, 0}, {0, 50}, {0, 0}}, point{0, 0}, 30, point{2, 1}, false},
		{rows{{0, 0}, {0, 50}, {0, 0}}, point{2, 1}, 30, point{0, 0}, false},
		// thirds are rounded to the nearest
		{rows{{0, 0, 50, 50}, {50, 50, 0, 0}}, point{0, 0}, 30, point{1, 3}, true},
		{rows{{0, 50, 0, 0}, {0, 0, 0, 0}}, point{0, 0}, 30, point{1, 3}, false},
		{rows{{0, 0, 0, 0}, {0, 0, 50, 0}}, point{0, 0}, 30, point{1, 3}, false},
	} {
		expectSeen(t, x.rows, x.from, x.mast, x.to, x.want)
	}
}

// TestSeesSlowly compares with slowSees. Whether a cell sees a point does not hang on its tilt, its power, its name and its identity.
func TestSeesSlowly(t *testing.T) {
	r := rand.New(rand.NewSource(91))
	seen := map[bool]int{}
	for range 4000 {
		raster := randomRaster(r)
		c := randomCell(r, raster, 0)
		other := randomCell(r, raster, 1)
		other.At, other.Mast = c.At, c.Mast
		for range 5 {
			at := randomPoint(r, raster)
			got, e := plan.Sees(raster, c, at)
			expect(t, fmt.Sprint("Sees ", raster, c, at), got, e, slowSees(raster, c, at), api.OK)
			again, e := plan.Sees(raster, other, at)
			expect(t, fmt.Sprint("Sees ", raster, other, at), again, e, got, api.OK)
			seen[got]++
		}
	}
	if seen[true] < 5000 || seen[false] < 3000 {
		t.Errorf("seen %v", seen)
	}
}
