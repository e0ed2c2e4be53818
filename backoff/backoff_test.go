package backoff

import (
	"fmt"
	"math"
	"math/big"
	"testing"

	"usufruct/api"
)

const (
	lowest     = math.MinInt
	highest    = math.MaxInt
	end        = 1 << 40 // the greatest tick
	mostTries  = 1000    // the most retries
	mostFactor = 16
)

// mixer draws numbers by a rule, the same ones each time.
type mixer uint64

func (m *mixer) below(n int) int {
	*m = *m*6364136223846793005 + 1442695040888963407
	return int(uint64(*m)>>33) % n
}

// far draws a number of any of many sizes, from 1 up to the greatest tick.
func (m *mixer) far() int {
	size := 1 << m.below(41)
	return min((m.below(1<<20)<<20+m.below(1<<20))%size+1+m.below(3), end)
}

// plan draws one that is right.
func (m *mixer) plan() api.Plan {
	base, top := m.far(), m.far()
	return api.Plan{Retries: m.below(mostTries + 1), Base: min(base, top), Factor: 1 + m.below(mostFactor), Cap: max(base, top)}
}

// edge is a number, and whether it is right in its place.
type edge struct {
	n    int
	good bool
}

// edges are numbers at both ends of what is right, far outside, and in the midst.
func edges(low, high int) []edge {
	var l []edge
	for _, n := range []int{lowest, lowest + 1, -end, -mostTries, -2, -1, 0, 1, 2, low - 2, low - 1, low, low + 1, (low + high) / 2, high - 1, high, high + 1, high + 2, 1<<32 + low, 1<<32 + 1, end - 1, end, end + 1, 1 << 41, 1<<62 + 1, highest - 1, highest} {
		l = append(l, edge{n, low <= n && n <= high})
	}
	return l
}

// wrongPlans are not right, in one place each, or in all of them.
func wrongPlans() []api.Plan {
	return []api.Plan{
		{},
		{Retries: -1, Base: 2, Factor: 3, Cap: 10}, {Retries: lowest, Base: 2, Factor: 3, Cap: 10},
		{Retries: mostTries + 1, Base: 2, Factor: 3, Cap: 10}, {Retries: highest, Base: 2, Factor: 3, Cap: 10},
		{Retries: 3, Base: 0, Factor: 3, Cap: 10}, {Retries: 3, Base: -1, Factor: 3, Cap: 10}, {Retries: 3, Base: lowest, Factor: 3, Cap: 10},
		{Retries: 3, Base: end + 1, Factor: 3, Cap: end + 1}, {Retries: 3, Base: end + 1, Factor: 3, Cap: end}, {Retries: 3, Base: highest, Factor: 3, Cap: highest},
		{Retries: 3, Base: 2, Factor: 0, Cap: 10}, {Retries: 3, Base: 2, Factor: -1, Cap: 10}, {Retries: 3, Base: 2, Factor: lowest, Cap: 10},
		{Retries: 3, Base: 2, Factor: mostFactor + 1, Cap: 10}, {Retries: 3, Base: 2, Factor: highest, Cap: 10},
		{Retries: 3, Base: 2, Factor: 3, Cap: 1}, {Retries: 3, Base: 2, Factor: 3, Cap: 0}, {Retries: 3, Base: 2, Factor: 3, Cap: -1}, {Retries: 3, Base: 2, Factor: 3, Cap: lowest},
		{Retries: 3, Base: 2, Factor: 3, Cap: end + 1}, {Retries: 3, Base: 2, Factor: 3, Cap: highest},
		{Retries: 0, Base: 0, Factor: 1, Cap: 0}, {Retries: 0, Base: -2, Factor: 1, Cap: -1}, {Retries: 3, Base: 0, Factor: 0, Cap: 0},
		{Retries: lowest, Base: lowest, Factor: lowest, Cap: lowest}, {Retries: highest, Base: highest, Factor: highest, Cap: highest},
	}
}

// rightPlans have numbers at both ends of what is right, in each place.
func rightPlans() []api.Plan {
	var l []api.Plan
	for _, retries := range []int{0, 1, 2, 40, mostTries - 1, mostTries} {
		for _, base := range []int{1, 2, 3, 1000, 1 << 20, 1<<39 - 1, 1 << 39, end - 1, end} {
			for _, factor := range []int{1, 2, 3, 10, mostFactor - 1, mostFactor} {
				for _, top := range []int{base, base + 1, base * factor, base*factor - 1, base*factor + 1, base * 4096, 1 << 20, 1 << 39, end - 1, end} {
					if base <= top && top <= end {
						l = append(l, api.Plan{Retries: retries, Base: base, Factor: factor, Cap: top})
					}
				}
			}
		}
	}
	return l
}

func number(n int) *big.Int {
	return big.NewInt(int64(n))
}

// nearest is the tick nearest to an exact number.
func nearest(n *big.Int) int {
	switch {
	case n.Sign() < 0:
		return 0
	case n.Cmp(number(end)) > 0:
		return end
	}
	return int(n.Int64())
}

// wordsWait is base times factor to the power of n, at most cap, by exact numbers. A power of more than 64 factors is beyond each cap, or 1.
func wordsWait(p api.Plan, n int) *big.Int {
	wait := new(big.Int).Exp(number(p.Factor), number(min(n, 64)), nil)
	wait.Mul(wait, number(p.Base))
	if wait.Cmp(number(p.Cap)) > 0 {
		return number(p.Cap)
	}
	return wait
}

// wordsTotals are the exact sums of the first waits, one by one: of none, of one, and so on up to count.
func wordsTotals(p api.Plan, count int) []*big.Int {
	sums := []*big.Int{new(big.Int)}
	for n := range count {
		sums = append(sums, new(big.Int).Add(sums[n], wordsWait(p, n)))
	}
	return sums
}

// wordsFarTotal is the exact sum of the first n waits: from the 64th on they are alike.
func wordsFarTotal(p api.Plan, n int) *big.Int {
	sums := wordsTotals(p, min(n, 64))
	sum := sums[len(sums)-1]
	alike := new(big.Int).Mul(number(max(n-64, 0)), wordsWait(p, 64))
	return alike.Add(alike, sum)
}

// wordsWorst sums up, try by try: each is late, and between two there is a wait.
func wordsWorst(p api.Plan, timeout int) int {
	sum := new(big.Int)
	for try := range p.Retries + 1 {
		if try > 0 {
			sum.Add(sum, wordsWait(p, try-1))
		}
		sum.Add(sum, number(nearest(number(timeout))))
	}
	return nearest(sum)
}

// check holds a call's answer for a plan and a number.
func check(t *testing.T, name string, call func(api.Plan, int) int, p api.Plan, n, want int) {
	t.Helper()
	if got := call(p, n); got != want {
		t.Fatalf("%s(%v, %d) = %d, not %d", name, p, n, got, want)
	}
}

// P11.1: Good at each place's edges, the others being right.
func TestGoodInEachPlace(t *testing.T) {
	right := api.Plan{Retries: 3, Base: 2, Factor: 3, Cap: 10}
	if !Good(right) {
		t.Fatalf("Good(%v) is false", right)
	}
	hold := func(p api.Plan, good bool) {
		t.Helper()
		if Good(p) != good {
			t.Errorf("Good(%v) = %v", p, !good)
		}
	}
	for _, e := range edges(0, mostTries) {
		p := right
		p.Retries = e.n
		hold(p, e.good)
	}
	for _, e := range edges(1, mostFactor) {
		p := right
		p.Factor = e.n
		hold(p, e.good)
	}
	for _, top := range []int{1, 2, 10, 1 << 20, end - 1, end} {
		for _, e := range edges(1, top) {
			p := right
			p.Base, p.Cap = e.n, top
			hold(p, e.good)
		}
	}
	for _, base := range []int{1, 2, 10, 1 << 20, end - 1, end} {
		for _, e := range edges(base, end) {
			p := right
			p.Base, p.Cap = base, e.n
			hold(p, e.good)
		}
	}
}

// P11.1: Good at all edges against each other: a plan is right, if each of its places is.
func TestGoodInAllPlaces(t *testing.T) {
	for _, retries := range edges(0, mostTries) {
		for _, factor := range edges(1, mostFactor) {
			for _, base := range edges(1, end) {
				for _, top := range edges(1, end) {
					p := api.Plan{Retries: retries.n, Base: base.n, Factor: factor.n, Cap: top.n}
					good := retries.good && factor.good && base.good && top.good && base.n <= top.n
					if Good(p) != good {
						t.Fatalf("Good(%v) = %v", p, !good)
					}
				}
			}
		}
	}
}

// P11.1: Good by exact numbers, as the chapter has them.
func TestGoodRows(t *testing.T) {
	for _, c := range []struct {
		p    api.Plan
		good bool
	}{
		{api.Plan{Retries: 0, Base: 1, Factor: 1, Cap: 1}, true},
		{api.Plan{Retries: 1, Base: 1, Factor: 1, Cap: 1}, true},
		{api.Plan{Retries: 1000, Base: end, Factor: 16, Cap: end}, true},
		{api.Plan{Retries: 1001, Base: end, Factor: 16, Cap: end}, false},
		{api.Plan{Retries: -1, Base: 1, Factor: 1, Cap: 1}, false},
		{api.Plan{Retries: 0, Base: 0, Factor: 1, Cap: 1}, false},
		{api.Plan{Retries: 0, Base: 0, Factor: 1, Cap: 0}, false},
		{api.Plan{Retries: 0, Base: 1, Factor: 0, Cap: 1}, false},
		{api.Plan{Retries: 0, Base: 1, Factor: 17, Cap: 1}, false},
		{api.Plan{Retries: 0, Base: 2, Factor: 1, Cap: 1}, false},
		{api.Plan{Retries: 0, Base: end, Factor: 1, Cap: end - 1}, false},
		{api.Plan{Retries: 0, Base: end + 1, Factor: 1, Cap: end + 1}, false},
		{api.Plan{Retries: 0, Base: 1, Factor: 1, Cap: end + 1}, false},
		{api.Plan{Retries: 0, Base: 1, Factor: 16, Cap: end}, true},
	} {
		if Good(c.p) != c.good {
			t.Errorf("Good(%v) = %v", c.p, !c.good)
		}
	}
	for _, p := range rightPlans() {
		if !Good(p) {
			t.Errorf("Good(%v) is false", p)
		}
	}
	for _, p := range wrongPlans() {
		if Good(p) {
			t.Errorf("Good(%v) is true", p)
		}
	}
}

// P11.1: Wait by exact numbers: at 0 and 1, at the one at which the cap is met, the one ahead of it, and behind it; below 0.
func TestWaitRows(t *testing.T) {
	for _, c := range []struct {
		p       api.Plan
		n, wait int
	}{
		{api.Plan{Base: 2, Factor: 3, Cap: 54}, 0, 2}, {api.Plan{Base: 2, Factor: 3, Cap: 54}, 1, 6},
		{api.Plan{Base: 2, Factor: 3, Cap: 54}, 2, 18}, {api.Plan{Base: 2, Factor: 3, Cap: 54}, 3, 54},
		{api.Plan{Base: 2, Factor: 3, Cap: 54}, 4, 54}, {api.Plan{Base: 2, Factor: 3, Cap: 53}, 3, 53},
		{api.Plan{Base: 2, Factor: 3, Cap: 55}, 3, 54}, {api.Plan{Base: 2, Factor: 3, Cap: 55}, 4, 55},
		{api.Plan{Base: 1, Factor: 2, Cap: end}, 39, 1 << 39}, {api.Plan{Base: 1, Factor: 2, Cap: end}, 40, end},
		{api.Plan{Base: 1, Factor: 2, Cap: end}, 41, end}, {api.Plan{Base: 1, Factor: 2, Cap: end}, highest, end},
		{api.Plan{Base: 1, Factor: 2, Cap: end - 1}, 39, 1 << 39}, {api.Plan{Base: 1, Factor: 2, Cap: end - 1}, 40, end - 1},
		{api.Plan{Base: 1, Factor: 16, Cap: end}, 9, 1 << 36}, {api.Plan{Base: 1, Factor: 16, Cap: end}, 10, end},
		{api.Plan{Base: 3, Factor: 16, Cap: end}, 9, 3 << 36}, {api.Plan{Base: 3, Factor: 16, Cap: end}, 10, end},
		{api.Plan{Base: end, Factor: 16, Cap: end}, 0, end}, {api.Plan{Base: end, Factor: 16, Cap: end}, 1, end},
		{api.Plan{Base: 7, Factor: 1, Cap: 9}, 0, 7}, {api.Plan{Base: 7, Factor: 1, Cap: 9}, 1, 7},
		{api.Plan{Base: 7, Factor: 1, Cap: 9}, 1000, 7}, {api.Plan{Base: 7, Factor: 1, Cap: 9}, highest, 7},
		{api.Plan{Base: 7, Factor: 16, Cap: 7}, 0, 7}, {api.Plan{Base: 7, Factor: 16, Cap: 7}, 1, 7}, {api.Plan{Base: 7, Factor: 16, Cap: 8}, 1, 8},
		{api.Plan{Base: 7, Factor: 2, Cap: 90}, -1, 0}, {api.Plan{Base: 7, Factor: 2, Cap: 90}, -2, 0}, {api.Plan{Base: 7, Factor: 2, Cap: 90}, lowest, 0},
	} {
		check(t, "Wait", Wait, c.p, c.n, c.wait)
	}
}

// numbers are numbers of waits: around those at which caps are met, far behind them, and below 0; those from 0 on rise.
func numbers() []int {
	var l []int
	for n := -2; n < 46; n++ {
		l = append(l, n)
	}
	return append(l, lowest, lowest+1, -1<<32, -mostTries, 63, 64, 65, 999, 1000, 1001, 1<<32-1, 1<<32, 1<<32+3, end-1, end, end+1, 1<<60, 1<<62, 1<<62+1, highest-1, highest)
}

// P11.1: Wait and Total of right plans against exact numbers.
func TestAgainstExactNumbers(t *testing.T) {
	for _, p := range rightPlans() {
		if p.Retries > 1 && p.Retries < mostTries {
			continue // waits don't hang on it: the ends are enough
		}
		for _, n := range numbers() {
			if n < 0 {
				check(t, "Wait", Wait, p, n, 0)
				check(t, "Total", Total, p, n, 0)
			} else {
				check(t, "Wait", Wait, p, n, nearest(wordsWait(p, n)))
			}
		}
		for n, sum := range wordsTotals(p, 70) {
			check(t, "Total", Total, p, n, nearest(sum))
		}
		for _, n := range []int{999, 1000, 1001, 1 << 32, 1<<32 + 3, end - 1, end, end + 1, 1 << 60, 1 << 62, highest - 1, highest} {
			check(t, "Total", Total, p, n, nearest(wordsFarTotal(p, n)))
		}
	}
}

// P11.1: Total is the sum of what Wait answers.
func TestTotalIsSumOfWaits(t *testing.T) {
	plans := []api.Plan{
		{Base: 2, Factor: 3, Cap: 10}, {Base: 1, Factor: 2, Cap: end}, {Base: 1, Factor: 16, Cap: end}, {Base: 7, Factor: 1, Cap: 9},
		{Base: 7, Factor: 1, Cap: end}, {Base: 1, Factor: 2, Cap: 1}, {Base: end, Factor: 1, Cap: end}, {Base: 1<<39 - 1, Factor: 2, Cap: end},
		{Base: 5, Factor: 2, Cap: 1 << 31}, {Base: 1, Factor: 1, Cap: 1},
	}
	for _, p := range plans {
		sum := new(big.Int)
		for n := range 2 * mostTries {
			check(t, "Total", Total, p, n, nearest(sum))
			sum.Add(sum, number(Wait(p, n)))
		}
	}
}

// P11.1: Total by exact numbers: of none, of one, at the cap and behind it, and where it meets and runs over MaxTick.
func TestTotalRows(t *testing.T) {
	for _, c := range []struct {
		p        api.Plan
		n, total int
	}{
		{api.Plan{Base: 2, Factor: 3, Cap: 10}, 0, 0}, {api.Plan{Base: 2, Factor: 3, Cap: 10}, 1, 2}, {api.Plan{Base: 2, Factor: 3, Cap: 10}, 2, 8},
		{api.Plan{Base: 2, Factor: 3, Cap: 10}, 3, 18}, {api.Plan{Base: 2, Factor: 3, Cap: 10}, 4, 28}, {api.Plan{Base: 2, Factor: 3, Cap: 10}, 1002, 10008},
		{api.Plan{Base: 2, Factor: 3, Cap: 10}, highest, end}, {api.Plan{Base: 2, Factor: 3, Cap: 10}, -1, 0}, {api.Plan{Base: 2, Factor: 3, Cap: 10}, lowest, 0},
		{api.Plan{Base: 1, Factor: 1, Cap: 1}, 1, 1}, {api.Plan{Base: 1, Factor: 1, Cap: 1}, end - 1, end - 1}, {api.Plan{Base: 1, Factor: 1, Cap: 1}, end, end},
		{api.Plan{Base: 1, Factor: 1, Cap: 1}, end + 1, end}, {api.Plan{Base: 1, Factor: 1, Cap: 1}, highest, end}, {api.Plan{Base: 1, Factor: 1, Cap: 1}, -end, 0},
		{api.Plan{Base: 1, Factor: 2, Cap: end}, 39, 1<<39 - 1}, {api.Plan{Base: 1, Factor: 2, Cap: end}, 40, end - 1}, {api.Plan{Base: 1, Factor: 2, Cap: end}, 41, end},
		{api.Plan{Base: end, Factor: 1, Cap: end}, 0, 0}, {api.Plan{Base: end, Factor: 1, Cap: end}, 1, end}, {api.Plan{Base: end, Factor: 1, Cap: end}, 2, end},
		{api.Plan{Base: 1 << 39, Factor: 1, Cap: end}, 2, end}, {api.Plan{Base: 1<<39 - 1, Factor: 1, Cap: end}, 2, end - 2}, {api.Plan{Base: 1<<39 - 1, Factor: 1, Cap: end}, 3, end},
		{api.Plan{Base: 2, Factor: 16, Cap: 3}, 2, 5}, {api.Plan{Base: 2, Factor: 16, Cap: 3}, (end-2)/3 + 1, end - 2 - (end-2)%3 + 2},
		{api.Plan{Base: 1 << 20, Factor: 1, Cap: 1 << 20}, 1 << 44, end}, // wrapped round, it would be 0
		{api.Plan{Base: 1 << 20, Factor: 1, Cap: 1 << 20}, 1<<44 + 1, end},
	} {
		check(t, "Total", Total, c.p, c.n, c.total)
	}
}

// P11.1: Left at no tries, below 0, and at and behind the last one.
func TestLeft(t *testing.T) {
	for _, retries := range []int{0, 1, 2, 500, mostTries - 1, mostTries} {
		p := api.Plan{Retries: retries, Base: 1, Factor: 1, Cap: 1}
		for tries := range retries + 5 {
			check(t, "Left", Left, p, tries, max(retries+1-tries, 0))
		}
		for _, tries := range []int{lowest, lowest + 1, -1 << 62, -end, -mostTries, -2, -1, 0} {
			check(t, "Left", Left, p, tries, retries+1)
		}
		for _, tries := range []int{retries + 1, retries + 2, mostTries + 1, mostTries + 2, 1<<32 + 1, end, 1 << 62, highest - 1, highest} {
			check(t, "Left", Left, p, tries, 0)
		}
		check(t, "Left", Left, p, retries, 1)
	}
	for _, p := range rightPlans() {
		check(t, "Left", Left, p, 1, p.Retries)
	}
}

// P11.1: of plans that aren't right, Wait, Total and Left are 0, and Worst ends; so too where the plan's other places are as in one that is right.
func TestWrongPlans(t *testing.T) {
	for _, p := range wrongPlans() {
		for _, n := range append(numbers(), p.Retries, p.Base, p.Cap) {
			check(t, "Wait", Wait, p, n, 0)
			check(t, "Total", Total, p, n, 0)
			check(t, "Left", Left, p, n, 0)
			check(t, "Worst", Worst, p, n, 0)
		}
	}
}

// timeouts are ticks, and what is none.
func timeouts() []int {
	return []int{0, 1, 2, 5, 1000, 1 << 20, end / 1001, end/1001 + 1, 1 << 39, end - 1, end, -1, -5, -end, lowest, end + 1, end + 2, 1 << 41, 1 << 62, highest}
}

// P11.2: Worst against timeouts and waits summed one by one.
func TestWorstAgainstSums(t *testing.T) {
	for _, p := range rightPlans() {
		if p.Retries >= 40 && p.Factor > 2 && p.Cap != end {
			continue // the sums one by one take their time
		}
		for _, timeout := range []int{0, 1, 1000, end / 1001, end, -1, end + 1, highest} {
			check(t, "Worst", Worst, p, timeout, wordsWorst(p, timeout))
		}
	}
	for _, retries := range []int{0, 1, 2, 3, 999, mostTries} {
		for _, p := range []api.Plan{{Base: 2, Factor: 3, Cap: 10}, {Base: 7, Factor: 1, Cap: 9}, {Base: 1, Factor: 2, Cap: end}, {Base: 1, Factor: 1, Cap: 1}, {Base: 5, Factor: 16, Cap: 1 << 29}} {
			p.Retries = retries
			for _, timeout := range timeouts() {
				check(t, "Worst", Worst, p, timeout, wordsWorst(p, timeout))
			}
		}
	}
}

// P11.2: Worst by exact numbers: at timeouts at both edges and outside, and where it meets and runs over MaxTick.
func TestWorstRows(t *testing.T) {
	three := api.Plan{Retries: 3, Base: 2, Factor: 3, Cap: 10}
	none := api.Plan{Retries: 0, Base: 2, Factor: 3, Cap: 10}
	one := api.Plan{Retries: 1, Base: 2, Factor: 3, Cap: 10}
	most := api.Plan{Retries: 1000, Base: 2, Factor: 3, Cap: 10}
	for _, c := range []struct {
		p              api.Plan
		timeout, worst int
	}{
		{three, 0, 18}, {three, 1, 22}, {three, 5, 38}, {three, -1, 18}, {three, -5, 18}, {three, lowest, 18},
		{three, end, end}, {three, end + 1, end}, {three, highest, end},
		{three, (end - 18) / 4, end - 2}, {three, (end-18)/4 + 1, end},
		{none, 0, 0}, {none, 1, 1}, {none, 5, 5}, {none, -5, 0}, {none, lowest, 0}, {none, end - 1, end - 1}, {none, end, end}, {none, end + 1, end}, {none, highest, end},
		{one, 0, 2}, {one, 1, 4}, {one, 5, 12}, {one, -1, 2}, {one, 1<<39 - 1, end}, {one, 1<<39 - 2, end - 2}, {one, 1 << 39, end}, {one, highest, end},
		{most, 0, 9988}, {most, 1, 10989}, {most, -3, 9988}, {most, 1 << 20, 1001<<20 + 9988}, {most, end, end},
		{api.Plan{Retries: 1, Base: end, Factor: 1, Cap: end}, 0, end}, {api.Plan{Retries: 0, Base: end, Factor: 1, Cap: end}, 0, 0},
		{api.Plan{Retries: 1, Base: end - 2, Factor: 1, Cap: end}, 1, end}, {api.Plan{Retries: 1, Base: end - 3, Factor: 1, Cap: end}, 1, end - 1},
		{api.Plan{Retries: 41, Base: 1, Factor: 2, Cap: end}, 0, end}, {api.Plan{Retries: 40, Base: 1, Factor: 2, Cap: end}, 0, end - 1},
	} {
		check(t, "Worst", Worst, c.p, c.timeout, c.worst)
	}
}

// P11.2: a timeout that is no tick is taken as the nearest one.
func TestWorstTakesTicks(t *testing.T) {
	for _, p := range rightPlans() {
		for _, timeout := range timeouts() {
			check(t, "Worst", Worst, p, timeout, Worst(p, nearest(number(timeout))))
		}
	}
}

// P11.3: of right plans, no wait is less than the one ahead of it, and each is from base to cap.
func TestWaitsNeverFall(t *testing.T) {
	plans := rightPlans()
	m := mixer(11)
	for range 2000 {
		plans = append(plans, m.plan())
	}
	for _, p := range plans {
		ahead := p.Base
		for _, n := range numbers() {
			if n < 0 {
				continue
			}
			wait := Wait(p, n)
			if wait < ahead || wait > p.Cap {
				t.Fatalf("Wait(%v, %d) = %d, one ahead of it %d", p, n, wait, ahead)
			}
			ahead = wait
		}
	}
}

// P11.3: the chapter's example.
func TestExample(t *testing.T) {
	for retries := range 5 {
		p := api.Plan{Retries: retries, Base: 2, Factor: 3, Cap: 10}
		for n, wait := range []int{2, 6, 10, 10} {
			check(t, "Wait", Wait, p, n, wait)
		}
	}
}

// P11.1 to P11.3: drawn plans, against exact numbers.
func TestDrawnPlans(t *testing.T) {
	m := mixer(1)
	for range 3000 {
		p := m.plan()
		if !Good(p) {
			t.Fatalf("Good(%v) is false", p)
		}
		for range 8 {
			n := m.below(60)
			check(t, "Wait", Wait, p, n, nearest(wordsWait(p, n)))
			check(t, "Total", Total, p, n, nearest(wordsFarTotal(p, n)))
			far := m.far()
			check(t, "Wait", Wait, p, far, nearest(wordsWait(p, far)))
			check(t, "Total", Total, p, far, nearest(wordsFarTotal(p, far)))
		}
		tries := m.below(mostTries + 10)
		check(t, "Left", Left, p, tries, max(p.Retries+1-tries, 0))
		p.Retries %= 30
		timeout := m.far() - m.below(2)*m.far()
		check(t, "Worst", Worst, p, timeout, wordsWorst(p, timeout))
	}
}

// P1 and R8: each call ends at any arguments, with a tick, and the same one again.
func TestAnyArguments(t *testing.T) {
	ints := []int{lowest, lowest + 1, -1, 0, 1, 2, 16, 17, 1000, 1001, end - 1, end, end + 1, 1 << 62, highest}
	for _, retries := range ints {
		for _, base := range ints {
			for _, factor := range ints {
				for _, top := range ints {
					p := api.Plan{Retries: retries, Base: base, Factor: factor, Cap: top}
					for _, n := range ints {
						for i, call := range []func(api.Plan, int) int{Wait, Total, Left, Worst} {
							got := call(p, n)
							if got < 0 || got > end || got != call(p, n) || !Good(p) && got != 0 {
								t.Fatalf("call %d of %v, %d: %d", i, p, n, got)
							}
						}
					}
				}
			}
		}
	}
}

func Example() {
	p := api.Plan{Retries: 3, Base: 2, Factor: 3, Cap: 10}
	fmt.Println(Wait(p, 0), Wait(p, 1), Wait(p, 2), Wait(p, 3))
	fmt.Println(Total(p, 3), Left(p, 1), Worst(p, 5))
	// Output:
	// 2 6 10 10
	// 18 3 38
}
