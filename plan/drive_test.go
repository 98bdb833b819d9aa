package plan_test

import (
	"fmt"
	"math/big"
	"math/rand"
	"slices"
	"testing"

	"downtilt/api"
	"downtilt/plan"
)

// driveOf is measurements, each one by its row, its column and its level.
func driveOf(numbers ...int) []api.PlanDrive {
	var l []api.PlanDrive
	for x := range slices.Chunk(numbers, 3) {
		l = append(l, api.PlanDrive{At: [2]int{x[0], x[1]}, Level: x[2]})
	}
	return l
}

// expectDrive compares the ends, the mean and how many were missed.
func expectDrive(t *testing.T, p api.PlanPlan, l []api.PlanDrive, lo, hi, num, den, missed int) {
	t.Helper()
	got, e := plan.CompareDrive(p, l)
	want := api.PlanCompared{Ends: api.Range{Lo: lo, Hi: hi}, Mean: api.Frac{Num: num, Den: den}, Missed: missed}
	expect(t, fmt.Sprint("CompareDrive ", p, l), got, e, want, api.OK)
}

// TestDriveExample is the example 6 of the chapter.
func TestDriveExample(t *testing.T) {
	expectDrive(t, examplePlan(), driveOf(0, 2, -720, 2, 2, -950), -50, -20, -35, 1, 1)
}

func TestDrives(t *testing.T) {
	p := examplePlan() // -700 at 0, 2; -450 at 0, 1; -500 at 0, 0; -900 at 2, 2
	expectDrive(t, p, driveOf(0, 2, -700), 0, 0, 0, 1, 0)
	expectDrive(t, p, driveOf(0, 2, -700, 0, 1, -450, 0, 0, -500), 0, 0, 0, 1, 0)
	expectDrive(t, p, driveOf(0, 2, -690, 0, 1, -460), -10, 10, 0, 1, 0)
	expectDrive(t, p, driveOf(0, 2, -697), 3, 3, 3, 1, 0)
	expectDrive(t, p, driveOf(0, 2, -697, 0, 2, -696), 3, 4, 7, 2, 0) // one point twice
	expectDrive(t, p, driveOf(0, 2, -703, 0, 2, -704), -4, -3, -7, 2, 0)
	expectDrive(t, p, driveOf(0, 0, -494, 0, 0, -500, 0, 0, -498, 0, 0, -500), 0, 6, 2, 1, 0)
	expectDrive(t, p, driveOf(0, 0, -494, 0, 0, -500, 0, 0, -498, 0, 0, -498), 0, 6, 5, 2, 0)
	expectDrive(t, p, driveOf(0, 0, -501, 0, 0, -500, 0, 0, -500), -1, 0, -1, 3, 0)
	expectDrive(t, p, driveOf(0, 0, -2000, 0, 0, 1000), -1500, 1500, 0, 1, 1)
	expectDrive(t, p, slices.Repeat(driveOf(0, 0, -500), 60), 0, 0, 0, 1, 0)
	expectDrive(t, p, append(slices.Repeat(driveOf(0, 0, -500), 59), driveOf(0, 0, -499)...), 0, 1, 1, 60, 0)
	expectDrive(t, p, append(slices.Repeat(driveOf(0, 0, -500), 59), driveOf(0, 0, -515)...), -15, 0, -1, 4, 0)
	// missed is what is below Least
	expectDrive(t, p, driveOf(2, 2, -900), 0, 0, 0, 1, 0)
	expectDrive(t, p, driveOf(2, 2, -901), -1, -1, -1, 1, 1)
	expectDrive(t, p, driveOf(2, 2, -901, 0, 0, -900, 0, 0, -901, 2, 2, -901), -401, -1, -803, 4, 3)
	p.Least = -899 // a hole at 2, 2 is not missed
	expectDrive(t, p, driveOf(2, 2, -950), -50, -50, -50, 1, 0)
	expectDrive(t, p, driveOf(2, 2, -950, 0, 2, -899), -199, -50, -249, 2, 0)
	expectDrive(t, p, driveOf(2, 2, -950, 0, 2, -900), -200, -50, -125, 1, 1)
	// points without a level are left out
	p.Losses = p.Losses[:1]
	expectDrive(t, p, driveOf(2, 2, -950, 0, 0, -497, 0, 2, 1000), 3, 3, 3, 1, 0)
	expectDrive(t, p, driveOf(0, 0, -2000, 2, 2, -2000), -1500, -1500, -1500, 1, 1)
	expectDrive(t, p, driveOf(2, 2, 0, 0, 0, -497, 0, 2, 0, 0, 0, -498), 2, 3, 5, 2, 0)
	for _, l := range [][]api.PlanDrive{driveOf(2, 2, -950), driveOf(0, 2, -950, 2, 0, 7)} {
		got, e := plan.CompareDrive(p, l)
		expect(t, fmt.Sprint("CompareDrive of points without a level ", l), got, e, api.PlanCompared{}, api.ErrNone)
	}
	// the server is that with the greatest level
	two := twoCells()
	two.Cells[0].Power = 590
	expectDrive(t, two, driveOf(0, 2, -700, 0, 0, -510, 2, 2, -500), 0, 0, 0, 1, 0)
}

// TestDrivesSlowly follows the definition.
func TestDrivesSlowly(t *testing.T) {
	r := rand.New(rand.NewSource(101))
	seen, out, broken, missing := map[api.Errno]int{}, 0, 0, 0
	for range 1000 {
		p := randomPlan(r)
		l := randomDrive(r, p)
		if r.Intn(5) == 0 {
			l = l[:min(len(l), 1+r.Intn(2))]
		}
		covered := slowCovered(p)
		want, f := api.PlanCompared{}, api.ErrNone
		var sum, count int64
		for _, x := range l {
			_, level := slowServer(p, x.At)
			if level == nil {
				out++
				continue
			}
			d := x.Level - *level
			if f == api.ErrNone {
				f = api.OK
				want.Ends = api.Range{Lo: d, Hi: d}
			}
			want.Ends = api.Range{Lo: min(want.Ends.Lo, d), Hi: max(want.Ends.Hi, d)}
			sum, count = sum+int64(d), count+1
			if x.Level < p.Least && covered[x.At] {
				want.Missed++
			}
		}
		if f == api.OK {
			mean := big.NewRat(sum, count)
			want.Mean = api.Frac{Num: int(mean.Num().Int64()), Den: int(mean.Denom().Int64())}
		}
		got, e := plan.CompareDrive(p, l)
		expect(t, fmt.Sprint("CompareDrive ", p, l), got, e, want, f)
		seen[f]++
		if want.Mean.Den > 1 {
			broken++
		}
		missing += want.Missed
	}
	if seen[api.OK] < 500 || seen[api.ErrNone] < 20 || out < 500 || broken < 200 || missing < 500 {
		t.Errorf("seen %v, %d left out, %d means are no whole numbers, %d missed", seen, out, broken, missing)
	}
}
