package tick

import (
	"math"
	"math/big"
	"testing"

	"usufruct/api"
)

const (
	least    = math.MinInt
	greatest = math.MaxInt
)

// samples are ordinary numbers, both ends of the ticks, of the ints, and of the halves whose sums and products meet them, each with its neighbours; rising.
func samples() []int {
	return []int{
		least, least + 1, -api.MaxTick - 1, -api.MaxTick, -1 << 32, -17, -2, -1,
		0, 1, 2, 3, 5, 10, 41, 1000, 1<<20 - 1, 1 << 20, 1<<20 + 1,
		1<<32 - 1, 1 << 32, 1<<39 - 1, 1 << 39, 1<<39 + 1,
		api.MaxTick - 2, api.MaxTick - 1, api.MaxTick, api.MaxTick + 1, api.MaxTick + 2,
		1 << 62, greatest - 1, greatest,
	}
}

// nearest is the tick nearest to an exact number.
func nearest(n *big.Int) int {
	if n.Sign() < 0 {
		return 0
	}
	if n.Cmp(big.NewInt(api.MaxTick)) > 0 {
		return api.MaxTick
	}
	return int(n.Int64())
}

// exact is the tick nearest to a number that was handed in, as an exact number.
func exact(n int) *big.Int {
	return big.NewInt(int64(nearest(big.NewInt(int64(n)))))
}

// exactPow multiplies exactly; the power is cut to MaxTick and one, which is beyond each tick as well.
func exactPow(base, k int) *big.Int {
	b, rounds, beyond := exact(base), exact(k).Int64(), big.NewInt(api.MaxTick+1)
	if b.Cmp(big.NewInt(1)) <= 0 && rounds > 1 {
		rounds = 1 // 0 and 1 are their own powers
	}
	power := big.NewInt(1)
	for range rounds {
		if power.Mul(power, b); power.Cmp(beyond) >= 0 {
			return beyond
		}
	}
	return power
}

type call2 struct {
	name string
	call func(int, int) int
}

func numberCalls() []call2 {
	return []call2{{"Add", Add}, {"Sub", Sub}, {"Times", Times}, {"Pow", Pow}}
}

// P1.1: Good and Of.
func TestGoodAndOf(t *testing.T) {
	for _, c := range []struct {
		n    int
		good bool
		of   int
	}{
		{least, false, 0},
		{least + 1, false, 0},
		{-api.MaxTick, false, 0},
		{-2, false, 0},
		{-1, false, 0},
		{0, true, 0},
		{1, true, 1},
		{2, true, 2},
		{1234567, true, 1234567},
		{1 << 32, true, 1 << 32},
		{api.MaxTick - 1, true, api.MaxTick - 1},
		{api.MaxTick, true, api.MaxTick},
		{api.MaxTick + 1, false, api.MaxTick},
		{2 * api.MaxTick, false, api.MaxTick},
		{greatest - 1, false, api.MaxTick},
		{greatest, false, api.MaxTick},
	} {
		if got := Good(c.n); got != c.good {
			t.Errorf("Good(%d) = %v", c.n, got)
		}
		if got := Of(c.n); got != c.of {
			t.Errorf("Of(%d) = %d, not %d", c.n, got, c.of)
		}
	}
}

// P1.1: Of answers ticks alone, leaves them as they are, and no tick is nearer.
func TestOfIsNearest(t *testing.T) {
	for _, n := range samples() {
		got := Of(n)
		if !Good(got) {
			t.Errorf("Of(%d) = %d is no tick", n, got)
		}
		if Good(n) != (got == n) {
			t.Errorf("Of(%d) = %d, Good is %v", n, got, Good(n))
		}
		if want := nearest(big.NewInt(int64(n))); got != want {
			t.Errorf("Of(%d) = %d, not %d", n, got, want)
		}
	}
}

// P1.1: all others take Of of what they are handed, first.
func TestOthersTakeOfFirst(t *testing.T) {
	for _, a := range samples() {
		for _, b := range samples() {
			for _, c := range numberCalls() {
				if got, want := c.call(a, b), c.call(Of(a), Of(b)); got != want {
					t.Errorf("%s(%d, %d) = %d, of their ticks %d", c.name, a, b, got, want)
				}
			}
			if got, want := Due(a, b), Due(Of(a), Of(b)); got != want {
				t.Errorf("Due(%d, %d) = %v, of their ticks %v", a, b, got, want)
			}
		}
	}
}

// P1.1: cases in which Of first and Of last are told apart.
func TestOfComesFirst(t *testing.T) {
	for _, c := range []struct {
		name      string
		got, want int
	}{
		{"Add(-5, 3)", Add(-5, 3), 3},
		{"Add(3, -5)", Add(3, -5), 3},
		{"Add(greatest, -1)", Add(greatest, -1), api.MaxTick},
		{"Add(MaxTick+5, -5)", Add(api.MaxTick+5, -5), api.MaxTick},
		{"Sub(5, -3)", Sub(5, -3), 5},
		{"Sub(MaxTick+5, 3)", Sub(api.MaxTick+5, 3), api.MaxTick - 3},
		{"Sub(MaxTick+5, MaxTick+2)", Sub(api.MaxTick+5, api.MaxTick+2), 0},
		{"Sub(-3, -5)", Sub(-3, -5), 0},
		{"Sub(0, least)", Sub(0, least), 0},
		{"Times(-2, -3)", Times(-2, -3), 0},
		{"Times(least, least)", Times(least, least), 0},
		{"Pow(-2, 2)", Pow(-2, 2), 0},
		{"Pow(-1, 4)", Pow(-1, 4), 0},
		{"Pow(3, -1)", Pow(3, -1), 1},
	} {
		if c.got != c.want {
			t.Errorf("%s = %d, not %d", c.name, c.got, c.want)
		}
	}
	if !Due(-5, -3) || !Due(api.MaxTick, greatest) || !Due(api.MaxTick+1, api.MaxTick+2) {
		t.Error("Due holds numbers against each other, not their ticks")
	}
}

// P1.2: sums, at ordinary numbers and at the edges.
func TestAdd(t *testing.T) {
	check(t, "Add", Add, [][3]int{
		{0, 0, 0}, {2, 3, 5}, {3, 0, 3}, {0, 3, 3}, {1 << 32, 1 << 32, 1 << 33},
		{api.MaxTick, 1, api.MaxTick},
		{api.MaxTick, 0, api.MaxTick},
		{api.MaxTick - 1, 0, api.MaxTick - 1},
		{api.MaxTick - 1, 1, api.MaxTick},
		{api.MaxTick - 1, 2, api.MaxTick},
		{api.MaxTick - 2, 1, api.MaxTick - 1},
		{1 << 39, 1 << 39, api.MaxTick},
		{1 << 39, 1<<39 - 1, api.MaxTick - 1},
		{1 << 39, 1<<39 + 1, api.MaxTick},
		{api.MaxTick, api.MaxTick, api.MaxTick},
		{-1, -1, 0}, {-1, 7, 7},
		{least, least, 0}, {least, greatest, api.MaxTick}, {greatest, greatest, api.MaxTick}, {greatest, 1, api.MaxTick},
	})
}

// P1.2: differences, at ordinary numbers and at the edges.
func TestSub(t *testing.T) {
	check(t, "Sub", Sub, [][3]int{
		{5, 3, 2}, {3, 5, 0}, {3, 3, 0}, {3, 2, 1}, {2, 3, 0}, {3, 0, 3}, {0, 0, 0}, {0, 1, 0},
		{api.MaxTick, 0, api.MaxTick},
		{api.MaxTick, 1, api.MaxTick - 1},
		{api.MaxTick, api.MaxTick, 0},
		{api.MaxTick, api.MaxTick - 1, 1},
		{0, api.MaxTick, 0},
		{5, -3, 5}, {-5, 3, 0}, {api.MaxTick, -1, api.MaxTick},
		{least, greatest, 0}, {greatest, least, api.MaxTick}, {least, least, 0}, {greatest, greatest, 0}, {1, least, 1},
	})
}

// P1.2: products, at ordinary numbers and at the edges.
func TestTimes(t *testing.T) {
	check(t, "Times", Times, [][3]int{
		{0, 0, 0}, {7, 0, 0}, {0, 7, 0}, {7, 1, 7}, {1, 7, 7}, {6, 7, 42}, {1000, 1000, 1000000},
		{1 << 20, 1 << 20, api.MaxTick},
		{1 << 20, 1<<20 - 1, api.MaxTick - 1<<20},
		{1<<20 - 1, 1<<20 + 1, api.MaxTick - 1},
		{1 << 21, 1 << 20, api.MaxTick},
		{1<<20 + 1, 1 << 20, api.MaxTick},
		{3, 366503875925, api.MaxTick - 1},
		{3, 366503875926, api.MaxTick},
		{1 << 39, 2, api.MaxTick},
		{1<<39 - 1, 2, api.MaxTick - 2},
		{1<<39 + 1, 2, api.MaxTick},
		{1 << 32, 1 << 32, api.MaxTick},
		{api.MaxTick, 0, 0}, {api.MaxTick, 1, api.MaxTick}, {api.MaxTick, 2, api.MaxTick},
		{api.MaxTick, 1 << 24, api.MaxTick},
		{api.MaxTick, api.MaxTick, api.MaxTick},
		{-3, 4, 0}, {3, -4, 0}, {-3, -4, 0},
		{least, greatest, 0}, {least, least, 0}, {greatest, greatest, api.MaxTick}, {greatest, 0, 0}, {greatest, 1, api.MaxTick},
	})
}

// P1.2: powers, at ordinary numbers and at the edges.
func TestPow(t *testing.T) {
	check(t, "Pow", Pow, [][3]int{
		{0, 0, 1}, {1, 0, 1}, {7, 0, 1}, {api.MaxTick, 0, 1}, {-7, 0, 1}, {least, 0, 1}, {greatest, 0, 1},
		{0, 1, 0}, {0, 2, 0}, {0, 9, 0}, {0, api.MaxTick, 0},
		{1, 1, 1}, {1, 9, 1}, {1, api.MaxTick, 1}, {1, greatest, 1},
		{7, 1, 7}, {3, 4, 81}, {2, 10, 1024}, {10, 12, 1000000000000},
		{2, 39, 1 << 39}, {2, 40, api.MaxTick}, {2, 41, api.MaxTick}, {2, 64, api.MaxTick}, {2, api.MaxTick, api.MaxTick},
		{3, 25, 847288609443}, {3, 26, api.MaxTick}, {10, 13, api.MaxTick},
		{1 << 20, 2, api.MaxTick}, {1<<20 - 1, 2, api.MaxTick - 1<<21 + 1}, {1<<20 + 1, 2, api.MaxTick},
		{1 << 32, 2, api.MaxTick},
		{api.MaxTick - 1, 1, api.MaxTick - 1}, {api.MaxTick, 1, api.MaxTick}, {api.MaxTick, 2, api.MaxTick},
		{api.MaxTick, api.MaxTick, api.MaxTick},
		{-2, 1, 0}, {-2, 2, 0}, {2, -1, 1}, {0, -1, 1}, {-1, -1, 1},
		{least, greatest, 0}, {least, least, 1}, {greatest, least, 1}, {greatest, greatest, api.MaxTick}, {greatest, 1, api.MaxTick},
	})
}

func check(t *testing.T, name string, call func(int, int) int, rows [][3]int) {
	t.Helper()
	for _, c := range rows {
		if got := call(c[0], c[1]); got != c[2] {
			t.Errorf("%s(%d, %d) = %d, not %d", name, c[0], c[1], got, c[2])
		}
	}
}

// P1.2: Due, at ordinary numbers and at the edges.
func TestDue(t *testing.T) {
	for _, c := range []struct {
		now, at int
		due     bool
	}{
		{5, 5, true}, {5, 4, true}, {4, 5, false}, {0, 0, true}, {0, 1, false}, {1, 0, true}, {9, 0, true},
		{api.MaxTick, api.MaxTick, true},
		{api.MaxTick - 1, api.MaxTick, false},
		{api.MaxTick, api.MaxTick - 1, true},
		{0, api.MaxTick, false},
		{0, -3, true}, {-3, 0, true}, {-3, 1, false}, {-5, -3, true}, {-1, 5, false},
		{api.MaxTick, api.MaxTick + 1, true}, {api.MaxTick - 1, api.MaxTick + 1, false},
		{least, least, true}, {least, 0, true}, {least, 1, false}, {least, greatest, false},
		{greatest, least, true}, {greatest, greatest, true}, {api.MaxTick, greatest, true},
	} {
		if got := Due(c.now, c.at); got != c.due {
			t.Errorf("Due(%d, %d) = %v", c.now, c.at, got)
		}
	}
}

// P1.2: the chapter's examples.
func TestExamples(t *testing.T) {
	if got := Add(api.MaxTick, 1); got != api.MaxTick {
		t.Errorf("Add(MaxTick, 1) = %d", got)
	}
	if got := Sub(3, 5); got != 0 {
		t.Errorf("Sub(3, 5) = %d", got)
	}
	if got := Pow(2, 41); got != api.MaxTick {
		t.Errorf("Pow(2, 41) = %d", got)
	}
}

// P1.2: each answer is the tick nearest to what exact numbers come to.
func TestAgainstExactNumbers(t *testing.T) {
	for _, a := range samples() {
		for _, b := range samples() {
			x, y := exact(a), exact(b)
			for _, c := range []struct {
				name string
				got  int
				want *big.Int
			}{
				{"Add", Add(a, b), new(big.Int).Add(x, y)},
				{"Sub", Sub(a, b), new(big.Int).Sub(x, y)},
				{"Times", Times(a, b), new(big.Int).Mul(x, y)},
				{"Pow", Pow(a, b), exactPow(a, b)},
			} {
				if want := nearest(c.want); c.got != want {
					t.Errorf("%s(%d, %d) = %d, not %d", c.name, a, b, c.got, want)
				}
			}
			if got, want := Due(a, b), y.Cmp(x) <= 0; got != want {
				t.Errorf("Due(%d, %d) = %v", a, b, got)
			}
		}
	}
}

// P1.2: for each base whose powers end within the ticks soon enough, each of them up to those beyond.
func TestPowOfEachSmallBase(t *testing.T) {
	for base := range 200 {
		for k := range 50 {
			if got, want := Pow(base, k), nearest(exactPow(base, k)); got != want {
				t.Errorf("Pow(%d, %d) = %d, not %d", base, k, got, want)
			}
		}
	}
}

// P1.2: the greatest factor whose product is still a tick, and the one behind it, of each of many numbers.
func TestTimesBesideTheTop(t *testing.T) {
	for a := 1; a < 1<<22; a += 1 + a/3 {
		n := api.MaxTick / a
		if got := Times(a, n); got != a*n {
			t.Errorf("Times(%d, %d) = %d, not %d", a, n, got, a*n)
		}
		if got := Times(a, n+1); got != api.MaxTick {
			t.Errorf("Times(%d, %d) = %d", a, n+1, got)
		}
	}
}

// P1.3: sums and products don't hang on the order, of two and of three.
func TestOrder(t *testing.T) {
	for _, c := range []call2{{"Add", Add}, {"Times", Times}} {
		for _, x := range samples() {
			for _, y := range samples() {
				if got, want := c.call(x, y), c.call(y, x); got != want {
					t.Errorf("%s(%d, %d) = %d, turned %d", c.name, x, y, got, want)
				}
				for _, z := range samples() {
					if got, want := c.call(c.call(x, y), z), c.call(x, c.call(y, z)); got != want {
						t.Errorf("%s of %d, %d, %d: %d, or else %d", c.name, x, y, z, got, want)
					}
				}
			}
		}
	}
}

// P1.3: Add and Times never fall where an argument rises.
func TestNeverFall(t *testing.T) {
	rising := samples()
	for _, c := range []call2{{"Add", Add}, {"Times", Times}} {
		for i := 1; i < len(rising); i++ {
			below, above := rising[i-1], rising[i]
			if below >= above {
				t.Fatalf("samples don't rise at %d", i)
			}
			for _, other := range rising {
				if c.call(below, other) > c.call(above, other) {
					t.Errorf("%s(n, %d) falls from n %d to %d", c.name, other, below, above)
				}
				if c.call(other, below) > c.call(other, above) {
					t.Errorf("%s(%d, n) falls from n %d to %d", c.name, other, below, above)
				}
			}
		}
	}
}

// P1 and R8: whatever is handed in, each call ends without a panic, with a tick, and with the same one again.
func TestEachCallEnds(t *testing.T) {
	for _, a := range samples() {
		for _, b := range samples() {
			for _, c := range numberCalls() {
				got := c.call(a, b)
				if !Good(got) {
					t.Errorf("%s(%d, %d) = %d is no tick", c.name, a, b, got)
				}
				if again := c.call(a, b); again != got {
					t.Errorf("%s(%d, %d) = %d, then %d", c.name, a, b, got, again)
				}
			}
			if Due(a, b) != Due(a, b) {
				t.Errorf("Due(%d, %d) differs", a, b)
			}
		}
	}
}
