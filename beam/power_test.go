package beam_test

import (
	"fmt"
	"math/rand"
	"testing"

	"downtilt/api"
	"downtilt/beam"
)

// TestPowerExamples is the examples 5 and 6 of the chapter.
func TestPowerExamples(t *testing.T) {
	l, e := beam.SplitOf(api.BeamPanel{Power: 10, Most: 6}, []int{2, 9, 5})
	expect(t, "SplitOf 10", l, e, []int{2, 4, 4}, api.OK)
	l, e = beam.SplitOf(api.BeamPanel{Power: 11, Most: 6}, []int{2, 9, 5})
	expect(t, "SplitOf 11", l, e, []int{2, 5, 4}, api.OK)
	tilt := api.BeamTilt{Down: 60, Width: 70, Most: 200}
	for angle, want := range map[int]int{100: 39, 200: 200, 60: 0, 61: 0, 66: 0, 67: 1, 53: 1, 54: 0} {
		n, e := beam.TiltLoss(tilt, angle)
		expect(t, fmt.Sprint("TiltLoss at ", angle), n, e, want, api.OK)
	}
}

func lesserOnes(wants []int, level int) []int {
	var l []int
	for _, want := range wants {
		l = append(l, min(want, level))
	}
	return l
}

// splitOf tries one level after the other, and gives out what is left.
func splitOf(p api.BeamPanel, wants []int) []int {
	level := 0
	for level < p.Most && sumOf(lesserOnes(wants, level+1)) <= p.Power {
		level++
	}
	l := lesserOnes(wants, level)
	if level == p.Most {
		return l
	}
	left := p.Power - sumOf(l)
	for i, want := range wants {
		if want > level && left > 0 {
			l[i], left = l[i]+1, left-1
		}
	}
	return l
}

// expectFair is P5.13.
func expectFair(t *testing.T, p api.BeamPanel, wants, l []int) {
	t.Helper()
	used, e := beam.CheckSplit(p, l)
	expect(t, fmt.Sprint("CheckSplit ", p, l), used, e, sumOf(l), api.OK)
	for i, want := range wants {
		if l[i] > want {
			t.Errorf("%v, %v: %v gives more than is wanted", p, wants, l)
		}
		if l[i] >= min(want, p.Most) {
			continue
		}
		if used != p.Power {
			t.Errorf("%v, %v: %v leaves power", p, wants, l)
		}
		for _, other := range l {
			if other > l[i]+1 {
				t.Errorf("%v, %v: %v is not fair", p, wants, l)
			}
		}
	}
}

func TestSplitOf(t *testing.T) {
	r := rand.New(rand.NewSource(39))
	for i := range 20000 {
		most := []int{3, 20, 100}[i%3]
		p := api.BeamPanel{Power: r.Intn(most * (1 + r.Intn(8))), Most: r.Intn(most)}
		wants := randomList(r, r.Intn(13), most)
		l, e := beam.SplitOf(p, wants)
		expect(t, fmt.Sprint("SplitOf ", p, wants), l, e, splitOf(p, wants), api.OK)
		expectFair(t, p, wants, l)
	}
}

// TestGreatSplits is of powers as great as they may be.
func TestGreatSplits(t *testing.T) {
	const greatest = 1000000
	all := make([]int, 12)
	for i := range all {
		all[i] = greatest
	}
	for _, x := range []struct {
		p     api.BeamPanel
		wants []int
		want  []int
	}{
		{api.BeamPanel{Power: greatest, Most: greatest}, all, []int{83334, 83334, 83334, 83334, 83333, 83333, 83333, 83333, 83333, 83333, 83333, 83333}},
		{api.BeamPanel{Power: greatest, Most: greatest}, all[:1], all[:1]},
		{api.BeamPanel{Power: greatest, Most: greatest}, []int{greatest, 1}, []int{greatest - 1, 1}},
		{api.BeamPanel{Power: greatest, Most: greatest}, []int{1, greatest, greatest}, []int{1, 500000, 499999}},
		{api.BeamPanel{Power: greatest, Most: 7}, all[:3], []int{7, 7, 7}},
		{api.BeamPanel{Power: 20, Most: 7}, all[:3], []int{7, 7, 6}},
		{api.BeamPanel{Power: 21, Most: 7}, all[:3], []int{7, 7, 7}},
		{api.BeamPanel{Power: 22, Most: 7}, all[:3], []int{7, 7, 7}},
		{api.BeamPanel{Power: 0, Most: greatest}, all, make([]int, 12)},
		{api.BeamPanel{Power: greatest, Most: 0}, all, make([]int, 12)},
		{api.BeamPanel{Power: 2, Most: greatest}, []int{0, 5, 0, 5, 5}, []int{0, 1, 0, 1, 0}},
		{api.BeamPanel{Power: greatest, Most: greatest}, nil, nil},
		{api.BeamPanel{Power: 5, Most: 9}, []int{0, 0}, []int{0, 0}},
	} {
		l, e := beam.SplitOf(x.p, x.wants)
		expect(t, fmt.Sprint("SplitOf ", x.p, x.wants), l, e, x.want, api.OK)
		expectFair(t, x.p, x.wants, l)
	}
}

func TestCheckSplit(t *testing.T) {
	for _, x := range []struct {
		p    api.BeamPanel
		l    []int
		used int
		e    api.Errno
	}{
		{api.BeamPanel{}, nil, 0, api.OK},
		{api.BeamPanel{Power: 5}, []int{0, 0}, 0, api.OK},
		{api.BeamPanel{Power: 10, Most: 6}, []int{6, 4}, 10, api.OK},
		{api.BeamPanel{Power: 10, Most: 6}, []int{0, 3}, 3, api.OK},
		{api.BeamPanel{Power: 10, Most: 6}, []int{6, 5}, 0, api.ErrBreak},
		{api.BeamPanel{Power: 10, Most: 6}, []int{7}, 0, api.ErrRange},
		{api.BeamPanel{Power: 0, Most: 6}, []int{1}, 0, api.ErrBreak},
		{api.BeamPanel{Power: 1000000, Most: 1000000}, []int{1000000}, 1000000, api.OK},
		{api.BeamPanel{Power: 1000000, Most: 1000000}, []int{1000000, 1}, 0, api.ErrBreak},
	} {
		used, e := beam.CheckSplit(x.p, x.l)
		expect(t, fmt.Sprint("CheckSplit ", x.p, x.l), used, e, x.used, x.e)
	}
}

// TestTiltLoss counts up how often the square of the width goes into the product.
func TestTiltLoss(t *testing.T) {
	r := rand.New(rand.NewSource(40))
	for i := range 20000 {
		tilt := api.BeamTilt{Down: part(r, 900), Width: 1 + r.Intn(900), Most: r.Intn(401)}
		angle := part(r, 900)
		if i%2 == 0 {
			angle = max(-900, min(900, tilt.Down+part(r, tilt.Width)))
		}
		want := 0
		for want < tilt.Most && (want+1)*tilt.Width*tilt.Width <= 120*(angle-tilt.Down)*(angle-tilt.Down) {
			want++
		}
		n, e := beam.TiltLoss(tilt, angle)
		expect(t, fmt.Sprint("TiltLoss ", tilt, angle), n, e, want, api.OK)
	}
	n, e := beam.TiltLoss(api.BeamTilt{Down: -900, Width: 900, Most: 400}, 900)
	expect(t, "TiltLoss at two widths, behind Most", n, e, 400, api.OK)
	n, e = beam.TiltLoss(api.BeamTilt{Down: -900, Width: 1, Most: 400}, 900)
	expect(t, "TiltLoss of the least width", n, e, 400, api.OK)
	n, e = beam.TiltLoss(api.BeamTilt{Down: 900, Width: 900, Most: 400}, 0)
	expect(t, "TiltLoss at one width", n, e, 120, api.OK)
}
