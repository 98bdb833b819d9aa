package sched_test

import (
	"fmt"
	"math/big"
	"math/rand"
	"slices"
	"testing"

	"downtilt/api"
	"downtilt/sched"
)

func demand(total int, demands, weights []int) api.SchedDemand {
	return api.SchedDemand{Total: total, Demands: demands, Weights: weights}
}

func shares(den int, parts ...int) api.SchedShares {
	return api.SchedShares{Den: den, Parts: parts}
}

func exampleDemand() api.SchedDemand {
	return demand(10, []int{2, 10, 10}, []int{1, 1, 2})
}

func checkShares(q api.SchedDemand, x api.SchedShares) api.Errno {
	return sched.CheckShares(q, x)
}

// TestSharesExample is the example 5 of the chapter.
func TestSharesExample(t *testing.T) {
	x, e := sched.SharesOf(exampleDemand())
	expect(t, "SharesOf", x, e, shares(3, 6, 8, 16), api.OK)
}

func TestSharesOf(t *testing.T) {
	for _, x := range []struct {
		q    api.SchedDemand
		want api.SchedShares
	}{
		{demand(0, []int{0}, []int{1}), shares(1, 0)},
		{demand(0, []int{5, 7}, []int{3, 100}), shares(1, 0, 0)},
		{demand(100, []int{0, 0}, []int{3, 100}), shares(1, 0, 0)},
		{demand(12, []int{5, 7}, []int{3, 100}), shares(1, 5, 7)},
		{demand(1000000, []int{5, 7}, []int{3, 100}), shares(1, 5, 7)},
		{demand(11, []int{5, 7}, []int{1, 1}), shares(1, 5, 6)},
		{demand(9, []int{5, 7}, []int{1, 1}), shares(2, 9, 9)},
		{demand(10, []int{5, 7}, []int{1, 1}), shares(1, 5, 5)},
		{demand(4, []int{5, 7}, []int{1, 1}), shares(1, 2, 2)},
		{demand(6, []int{5, 7}, []int{2, 4}), shares(1, 2, 4)},
		{demand(1, []int{1, 1, 1}, []int{1, 2, 3}), shares(6, 1, 2, 3)},
		{demand(10, []int{10, 2, 10}, []int{1, 1, 2}), shares(3, 8, 6, 16)},
		{demand(7, []int{7}, []int{100}), shares(1, 7)},
		{demand(6, []int{7}, []int{100}), shares(1, 6)},
		{demand(1000000, slices.Repeat([]int{1000000}, 8), []int{100, 99, 97, 100, 100, 100, 100, 100}), shares(199, 25000000, 24750000, 24250000, 25000000, 25000000, 25000000, 25000000, 25000000)},
	} {
		got, e := sched.SharesOf(x.q)
		expect(t, fmt.Sprint("SharesOf ", x.q), got, e, x.want, api.OK)
	}
}

// levels is the shares that a number L leads to.
func levels(q api.SchedDemand, level *big.Rat) []*big.Rat {
	l := make([]*big.Rat, len(q.Demands))
	for i, d := range q.Demands {
		l[i] = new(big.Rat).Mul(level, ratio(q.Weights[i], 1))
		if all := ratio(d, 1); all.Cmp(l[i]) < 0 {
			l[i] = all
		}
	}
	return l
}

func total(l []*big.Rat) *big.Rat {
	sum := new(big.Rat)
	for _, x := range l {
		sum.Add(sum, x)
	}
	return sum
}

// slowShares tries, for each set of users who get all of their demand, the L that the others would have.
func slowShares(q api.SchedDemand) []*big.Rat {
	whole := min(q.Total, sumOf(q.Demands))
	for set := range 1 << len(q.Demands) {
		left, weight := whole, 0
		for i, d := range q.Demands {
			if set>>i&1 == 1 {
				left -= d
			} else {
				weight += q.Weights[i]
			}
		}
		level := ratio(slices.Max(q.Demands), 1) // at least as great as each quotient
		if weight > 0 {
			level = ratio(left, weight)
		}
		if l := levels(q, level); level.Sign() >= 0 && total(l).Cmp(ratio(whole, 1)) == 0 {
			return l
		}
	}
	panic("no L")
}

// leastDen is the shares with the least common denominator.
func leastDen(l []*big.Rat) api.SchedShares {
	den := 1
	for !areWhole(l, den) {
		den++
	}
	x := shares(den, make([]int, len(l))...)
	for i := range l {
		x.Parts[i] = int(times(l[i], den).Num().Int64())
	}
	return x
}

func times(x *big.Rat, n int) *big.Rat {
	return new(big.Rat).Mul(x, ratio(n, 1))
}

func areWhole(l []*big.Rat, den int) bool {
	return !slices.ContainsFunc(l, func(x *big.Rat) bool { return !times(x, den).IsInt() })
}

func TestFairShares(t *testing.T) {
	r := rand.New(rand.NewSource(69))
	split := 0
	for range 3000 {
		q := randomDemand(r)
		want := leastDen(slowShares(q))
		x, e := sched.SharesOf(q)
		expect(t, fmt.Sprint("SharesOf ", q), x, e, want, api.OK)
		for _, times := range []int{1, 2, 1000000000 / x.Den} {
			y := shares(x.Den*times, slices.Clone(x.Parts)...)
			for i := range y.Parts {
				y.Parts[i] *= times
			}
			e = checkShares(q, y)
			expect(t, fmt.Sprint("CheckShares ", q, y), e, e, api.OK, api.OK)
		}
		if x.Den > 1 {
			split++
		}
	}
	if split < 500 {
		t.Errorf("%d times shares are no whole numbers", split)
	}
}

func sharesAsRatios(x api.SchedShares) []*big.Rat {
	l := make([]*big.Rat, len(x.Parts))
	for i, part := range x.Parts {
		l[i] = ratio(part, x.Den)
	}
	return l
}

func areEqual(a, b []*big.Rat) bool {
	return slices.EqualFunc(a, b, func(x, y *big.Rat) bool { return x.Cmp(y) == 0 })
}

// slowFairer compares the quotients.
func slowFairer(q api.SchedDemand, a, b api.SchedShares) int {
	fairness := func(x api.SchedShares) []*big.Rat {
		l := sharesAsRatios(x)
		for i := range l {
			l[i].Quo(l[i], ratio(q.Weights[i], 1))
		}
		slices.SortFunc(l, (*big.Rat).Cmp)
		return l
	}
	return slices.CompareFunc(fairness(a), fairness(b), (*big.Rat).Cmp)
}

// nearShares are right, and differ from fair ones a little.
func nearShares(r *rand.Rand, q api.SchedDemand) api.SchedShares {
	x := must(sched.SharesOf(q))
	times := 1 + r.Intn(3)
	x.Den *= times
	for i := range x.Parts {
		x.Parts[i] *= times
	}
	for range r.Intn(4) {
		from, to := r.Intn(len(x.Parts)), r.Intn(len(x.Parts))
		if x.Parts[from] > 0 {
			x.Parts[from]--
			if x.Parts[to] < q.Demands[to]*x.Den && r.Intn(4) > 0 {
				x.Parts[to]++
			}
		}
	}
	return x
}

// TestFairer compares with slow versions, also CheckShares; it is the first part of P6.10 too.
func TestFairer(t *testing.T) {
	r := rand.New(rand.NewSource(70))
	seen := map[int]int{}
	proofs := map[api.Errno]int{}
	for i := range 3000 {
		q := randomDemand(r)
		a, b := randomShares(r, q), randomShares(r, q)
		if i%2 == 0 {
			a, b = nearShares(r, q), nearShares(r, q)
		}
		n, e := sched.Fairer(q, a, b)
		expect(t, fmt.Sprint("Fairer ", q, a, b), n, e, slowFairer(q, a, b), api.OK)
		seen[n]++
		fair := must(sched.SharesOf(q))
		for _, x := range []api.SchedShares{a, b} {
			n, want := must(sched.Fairer(q, fair, x)), 1
			f := api.ErrProof
			if areEqual(sharesAsRatios(x), slowShares(q)) {
				want, f = 0, api.OK
			}
			e := checkShares(q, x)
			expect(t, fmt.Sprint("CheckShares ", q, x), e, e, f, f)
			proofs[f]++
			if n < 0 || n != want && f == api.OK {
				t.Errorf("%v: of %v and %v the fairer ones are %d", q, fair, x, n)
			}
		}
	}
	for n := -1; n <= 1; n++ {
		if seen[n] < 300 || proofs[api.OK] < 300 || proofs[api.ErrProof] < 300 {
			t.Errorf("fairer %v, accepted %v", seen, proofs)
		}
	}
}

// TestFarFractions is of quotients whose products are beyond an int.
func TestFarFractions(t *testing.T) {
	q := demand(1000000, []int{1000000}, []int{100})
	a, b := shares(1000000000, 999999999999999), shares(999999999, 999999998999999)
	for _, x := range []struct {
		a, b api.SchedShares
		want int
	}{{a, b, 1}, {b, a, -1}, {a, a, 0}, {shares(1, 1000000), shares(1000000000, 1000000000000000), 0}, {shares(1, 0), shares(1000000000, 1), -1}, {shares(1, 0), shares(1000000000, 0), 0}} {
		n, e := sched.Fairer(q, x.a, x.b)
		expect(t, fmt.Sprint("Fairer ", x.a, x.b), n, e, x.want, api.OK)
	}
}

func TestFairerExamples(t *testing.T) {
	q := demand(10, []int{10, 10}, []int{1, 2})
	for _, x := range []struct {
		a, b api.SchedShares
		want int
	}{
		{shares(1, 1, 2), shares(2, 2, 4), 0},
		{shares(1, 3, 2), shares(1, 1, 6), 0},   // 1, 3 both
		{shares(1, 3, 4), shares(1, 2, 8), -1},  // 2, 3 and 2, 4
		{shares(1, 3, 4), shares(2, 4, 13), -1}, // 2, 3 and 2, 13/4
		{shares(1, 0, 10), shares(1, 1, 2), -1}, // 0, 5 and 1, 1
		{shares(1, 3, 6), shares(1, 4, 6), -1},  // 3, 3 and 3, 4
		{shares(1, 3, 6), shares(1, 2, 8), 1},   // 3, 3 and 2, 4
		{shares(3, 10, 20), shares(1, 3, 6), 1},
	} {
		n, e := sched.Fairer(q, x.a, x.b)
		expect(t, fmt.Sprint("Fairer ", x.a, x.b), n, e, x.want, api.OK)
	}
}

// TestGreaterTotal is the second part of P6.10.
func TestGreaterTotal(t *testing.T) {
	r := rand.New(rand.NewSource(71))
	for range 1000 {
		q := randomDemand(r)
		q.Total = upTo(r, min(1000, sumOf(q.Demands)))
		before := sharesAsRatios(must(sched.SharesOf(q)))
		for range 10 {
			q.Total += r.Intn(30)
			after := sharesAsRatios(must(sched.SharesOf(q)))
			for i := range after {
				if after[i].Cmp(before[i]) < 0 {
					t.Errorf("%v: the share %v becomes %v", q, before[i], after[i])
				}
			}
			before = after
		}
	}
}
