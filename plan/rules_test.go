package plan_test

import (
	"fmt"
	"math"
	"math/rand"
	"reflect"
	"slices"
	"strings"
	"testing"

	"downtilt/api"
	"downtilt/plan"
)

// anyNumber is one that is often at an end of a range, or far beyond.
func anyNumber(r *rand.Rand) int {
	ends := []int{0, 1, 2, 3, 4, 5, 6, 7, 8, 9, 11, 12, 13, 20, 21, 60, 61, 137, 138, 139, 200, 201, 300, 301, 1000, 1001, 1007, 1008, 3000, 3001, 5000, 5001, -1, -2, -2000, -2001, math.MaxInt, math.MaxInt - 1, math.MinInt, math.MinInt + 1, 1 << 32}
	return ends[r.Intn(len(ends))]
}

// spoil changes about one of so many parts of a value, and some lengths.
func spoil(r *rand.Rand, v reflect.Value, one int) {
	switch v.Kind() {
	case reflect.Int:
		if r.Intn(one) == 0 {
			v.SetInt(int64(anyNumber(r)))
		}
	case reflect.String:
		if r.Intn(one) == 0 {
			v.SetString([]string{"", "a", "b", "1", "a b", "abcdefghijklm", "\xff"}[r.Intn(7)])
		}
	case reflect.Struct:
		for i := range v.NumField() {
			spoil(r, v.Field(i), one)
		}
	case reflect.Array:
		for i := range v.Len() {
			spoil(r, v.Index(i), one)
		}
	case reflect.Slice:
		for i := range v.Len() {
			spoil(r, v.Index(i), one)
		}
		if v.Len() > 0 && r.Intn(one) == 0 {
			v.Set(v.Slice(0, r.Intn(v.Len())))
		}
	}
}

// wildArguments are right ones that go together, some of them changed.
func wildArguments(r *rand.Rand) arguments {
	var a arguments
	a.Raster = randomRaster(r)
	a.RasterCell, a.At = randomCell(r, a.Raster, 0), randomPoint(r, a.Raster)
	a.Plan = randomPlan(r)
	a.PlanAt, a.PlanCell = randomPoint(r, a.Plan.Raster), r.Intn(len(a.Plan.Cells))
	a.Tilts, a.Resting, a.Margin = randomTilts(r), randomSet(r, len(a.Plan.Cells)), upTo(r, 1000)
	a.Net = randomNet(r)
	a.NetCell, a.Cells = r.Intn(a.Net.Cells), randomSet(r, a.Net.Cells)
	a.Identities = randomList(r, a.Net.Cells, 0, []int{6, 1007}[r.Intn(2)])
	a.Needs, a.All, a.First = randomList(r, a.Net.Cells, 1, 20), 1+upTo(r, 137), randomList(r, a.Net.Cells, 0, 137)
	a.Drive = randomDrive(r, a.Plan)
	a.Text = plan.FormatCell(a.RasterCell)
	v := reflect.ValueOf(&a).Elem()
	for i := range v.NumField() {
		if r.Intn(6) == 0 && v.Type().Field(i).Name != "Text" {
			spoil(r, v.Field(i), 1+r.Intn(20))
		}
	}
	if r.Intn(3) == 0 {
		a.Text = spoilText(r, a.Text)
	}
	return roomy(r, reflect.ValueOf(a)).Interface().(arguments)
}

// roomy is a copy of a value whose slices have room behind their ends, where something stands.
func roomy(r *rand.Rand, v reflect.Value) reflect.Value {
	c := reflect.New(v.Type()).Elem()
	switch v.Kind() {
	case reflect.Struct:
		for i := range v.NumField() {
			c.Field(i).Set(roomy(r, v.Field(i)))
		}
	case reflect.Slice:
		c = reflect.MakeSlice(v.Type(), v.Len()+2, v.Len()+2)
		for i := range v.Len() {
			c.Index(i).Set(roomy(r, v.Index(i)))
		}
		for i := v.Len(); i < c.Len(); i++ {
			spoil(r, c.Index(i), 1)
		}
		c = c.Slice(0, v.Len())
	default:
		c.Set(v)
	}
	return c
}

// slicesIn is all slices within a value, as long as their room is.
func slicesIn(v reflect.Value) []reflect.Value {
	var l []reflect.Value
	switch v.Kind() {
	case reflect.Struct:
		for i := range v.NumField() {
			l = append(l, slicesIn(v.Field(i))...)
		}
	case reflect.Slice:
		for i := range v.Len() {
			l = append(l, slicesIn(v.Index(i))...)
		}
		l = append(l, v.Slice(0, v.Cap()))
	}
	return l
}

// expectApart looks whether any two slices share memory.
func expectApart(t *testing.T, l []reflect.Value) {
	t.Helper()
	l = slices.DeleteFunc(l, func(v reflect.Value) bool { return v.Len() == 0 })
	slices.SortFunc(l, func(a, b reflect.Value) int { return int(a.Pointer()) - int(b.Pointer()) })
	for i := 1; i < len(l); i++ {
		end := l[i-1].Pointer() + uintptr(l[i-1].Len())*l[i-1].Type().Elem().Size()
		if end > l[i].Pointer() {
			t.Fatalf("two slices share memory: %v, %v", l[i-1], l[i])
		}
	}
}

// TestNothingPanics calls all functions with any arguments (P1, R2): beside an error all other results are zero (R1), the same call has the same results (R4), no argument is changed, also not behind its end, and no two slices share memory (R3).
func TestNothingPanics(t *testing.T) {
	r := rand.New(rand.NewSource(104))
	right, wrong := map[string]int{}, map[string]int{}
	for range 600 {
		a := wildArguments(r)
		memory := slicesIn(reflect.ValueOf(a))
		before := fmt.Sprint(memory)
		for _, f := range functions() {
			results, e := f.call(a)
			if e == api.OK {
				right[f.name]++
			} else {
				wrong[f.name]++
			}
			if e != api.OK && !areNothing(results) {
				t.Fatalf("%s: %v beside the error %d", f.name, results, e)
			}
			again, e2 := f.call(a)
			expect(t, f.name+" again", again, e2, results, e)
			for _, x := range append(results, again...) {
				memory = append(memory, slicesIn(reflect.ValueOf(x))...)
			}
		}
		if after := fmt.Sprint(slicesIn(reflect.ValueOf(a))); after != before {
			t.Fatalf("an argument was changed: %s, %s", before, after)
		}
		expectApart(t, memory)
	}
	for _, f := range functions() {
		if right[f.name] < 50 || wrong[f.name] < 20 && f.name != "FormatCell" {
			t.Errorf("%s was right %d times, and wrong %d times", f.name, right[f.name], wrong[f.name])
		}
	}
}

// TestLargeArguments is of lists that are far too long.
func TestLargeArguments(t *testing.T) {
	const many = 1 << 20
	const plans = "LevelAt ServerAt Holes CoveredBy BestTilts MayRest MostResting NeighboursOf CompareDrive"
	const nets = "CheckNet Near FirstConfusion FewestKinds CheckClique Clique RootsFor FirstRootClash"
	long := make([]int, many)
	for _, x := range []struct {
		change func(*arguments)
		names  string
		e      api.Errno
	}{
		{func(a *arguments) { a.Raster.Rows = make([][]int, many) }, "CheckRaster CheckCell Sees", api.ErrLarge},
		{func(a *arguments) { a.Raster.Rows = [][]int{long, long, long} }, "CheckRaster CheckCell Sees", api.ErrLarge},
		{func(a *arguments) { a.Raster.Rows[2] = long }, "CheckRaster CheckCell Sees", api.ErrShape},
		{func(a *arguments) { a.RasterCell.Name = strings.Repeat("a", many) }, "CheckCell Sees", api.ErrName},
		{func(a *arguments) { a.Plan.Raster.Rows = make([][]int, many) }, plans, api.ErrLarge},
		{func(a *arguments) { a.Plan.Raster.Rows = [][]int{long} }, plans, api.ErrLarge},
		{func(a *arguments) { a.Plan.Cells = make([]api.PlanCell, many) }, plans, api.ErrLarge},
		{func(a *arguments) { a.Plan.Losses = make([]api.PlanLoss, many) }, plans, api.ErrLarge},
		{func(a *arguments) { a.Tilts = long }, "BestTilts", api.ErrLarge},
		{func(a *arguments) { a.Resting = long }, "MayRest", api.ErrOrder},
		{func(a *arguments) { a.Drive = make([]api.PlanDrive, many) }, "CompareDrive", api.ErrLarge},
		{func(a *arguments) { a.Net.Pairs = make([][2]int, many) }, nets, api.ErrLarge},
		{func(a *arguments) { a.Net.Cells = many; a.Identities, a.Needs, a.First = long, long, long }, nets, api.ErrRange},
		{func(a *arguments) { a.Identities = long }, "FirstConfusion", api.ErrShape},
		{func(a *arguments) { a.Cells = long }, "CheckClique", api.ErrOrder},
		{func(a *arguments) { a.Needs = long }, "RootsFor FirstRootClash", api.ErrShape},
		{func(a *arguments) { a.First = long }, "FirstRootClash", api.ErrShape},
	} {
		for name := range strings.SplitSeq(x.names, " ") {
			a := rightArguments()
			x.change(&a)
			results, e := functionOf(name).call(a)
			expect(t, name, areNothing(results), e, true, x.e)
		}
	}
	name := strings.Repeat("a", many)
	if s := plan.FormatCell(api.PlanCell{Name: name}); s != name+" 0 0 0 0 0 0" {
		t.Errorf("a text of %d bytes", len(s))
	}
}
