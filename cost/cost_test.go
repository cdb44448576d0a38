package cost

import (
	"math"
	"math/big"
	"slices"
	"testing"

	"spellwright/api"
)

const inf uint64 = api.Inf

// edges are costs at which something changes: both ends, those beside them, and those around halves and roots of Inf, whose sums or products come near to it.
func edges() []uint64 {
	return []uint64{
		0, 1, 2, 3, 7, 9, 10, 255, 256, 1000,
		1<<31 - 1, 1 << 31, 1<<32 - 2, 1<<32 - 1, 1 << 32, 1<<32 + 1,
		inf / 10, inf/10 + 1, inf / 5, inf/5 + 1, inf / 3, inf/3 + 1,
		1<<63 - 2, 1<<63 - 1, 1 << 63, 1<<63 + 1,
		inf - 1000, inf - 10, inf - 9, inf - 3, inf - 2, inf - 1, inf,
	}
}

// cut is a number that may be more than any cost, as a cost.
func cut(n *big.Int) uint64 {
	if n.IsUint64() {
		return n.Uint64()
	}
	return inf
}

func wide(c uint64) *big.Int {
	return new(big.Int).SetUint64(c)
}

func checkSum(t *testing.T, l []uint64, want uint64) {
	t.Helper()
	if got := Sum(l...); got != want {
		t.Errorf("Sum(%v) is %d, want %d", l, got, want)
	}
}

func checkLeast(t *testing.T, l []uint64, want uint64) {
	t.Helper()
	if got := Least(l...); got != want {
		t.Errorf("Least(%v) is %d, want %d", l, got, want)
	}
}

func checkTimes(t *testing.T, c uint64, n int, want uint64) {
	t.Helper()
	if got := Times(c, n); got != want {
		t.Errorf("Times(%d, %d) is %d, want %d", c, n, got, want)
	}
}

// P2.1

func TestAdd(t *testing.T) {
	for _, x := range []struct{ a, b, want uint64 }{
		{0, 0, 0},
		{0, 1, 1},
		{1, 0, 1},
		{2, 3, 5},
		{1000, 9, 1009},
		{1<<32 - 1, 1, 1 << 32},
		{1<<63 - 1, 1<<63 - 1, inf - 1},
		{1 << 63, 1<<63 - 1, inf},
		{1 << 63, 1 << 63, inf},
		{inf - 1, 0, inf - 1},
		{inf - 2, 1, inf - 1},
		{inf - 1, 1, inf},
		{inf - 1, 2, inf},
		{2, inf - 1, inf},
		{inf - 1, inf - 1, inf},
		{inf, 0, inf},
		{0, inf, inf},
		{inf, 1, inf},
		{1, inf, inf},
		{inf, inf, inf},
	} {
		if got := Add(x.a, x.b); got != x.want {
			t.Errorf("Add(%d, %d) is %d, want %d", x.a, x.b, got, x.want)
		}
	}
}

func TestAddOfEdges(t *testing.T) {
	for _, a := range edges() {
		for _, b := range edges() {
			want := cut(new(big.Int).Add(wide(a), wide(b)))
			if got := Add(a, b); got != want {
				t.Errorf("Add(%d, %d) is %d, want %d", a, b, got, want)
			}
		}
	}
}

func TestSum(t *testing.T) {
	if got := Sum(); got != 0 {
		t.Errorf("Sum() is %d", got)
	}
	checkSum(t, nil, 0)
	checkSum(t, []uint64{}, 0)
	checkSum(t, []uint64{0}, 0)
	checkSum(t, []uint64{0, 0, 0}, 0)
	checkSum(t, []uint64{7}, 7)
	checkSum(t, []uint64{1, 2, 3, 4}, 10)
	checkSum(t, []uint64{0, 5, 0, 5}, 10)
	checkSum(t, []uint64{inf}, inf)
	checkSum(t, []uint64{inf - 1}, inf-1)
	checkSum(t, []uint64{inf - 3, 1, 1}, inf-1)
	checkSum(t, []uint64{inf - 3, 1, 1, 1}, inf)
	checkSum(t, []uint64{inf - 3, 1, 1, 1, 0}, inf)
	checkSum(t, []uint64{inf - 3, 1, 1, 1, 1}, inf)
	checkSum(t, []uint64{1, inf, 1}, inf)
	checkSum(t, []uint64{1, 1, inf}, inf)
	checkSum(t, []uint64{inf, inf, inf, 1}, inf)
	checkSum(t, []uint64{1 << 63, 1 << 63, 1 << 63, 1 << 63, 5}, inf)
}

func TestSumIsAddOfAll(t *testing.T) {
	for _, a := range edges() {
		for _, b := range edges() {
			checkSum(t, []uint64{a}, a)
			checkSum(t, []uint64{a, b}, Add(a, b))
			for _, c := range edges() {
				all := new(big.Int).Add(wide(a), wide(b))
				checkSum(t, []uint64{a, b, c}, cut(all.Add(all, wide(c))))
			}
		}
	}
}

// A cost is lost neither at the list's end nor within a long one.
func TestSumOfMany(t *testing.T) {
	var l []uint64
	var want uint64
	for i := range 1000 {
		checkSum(t, l, want)
		l = append(l, uint64(i)*3)
		want += uint64(i) * 3
	}
	checkSum(t, l, 1498500)
}

// P2.2

func TestLeast(t *testing.T) {
	if got := Least(); got != inf {
		t.Errorf("Least() is %d", got)
	}
	checkLeast(t, nil, inf)
	checkLeast(t, []uint64{}, inf)
	checkLeast(t, []uint64{0}, 0)
	checkLeast(t, []uint64{7}, 7)
	checkLeast(t, []uint64{inf}, inf)
	checkLeast(t, []uint64{inf, inf}, inf)
	checkLeast(t, []uint64{inf, inf - 1}, inf-1)
	checkLeast(t, []uint64{inf - 1, inf}, inf-1)
	checkLeast(t, []uint64{3, 1, 2}, 1)
	checkLeast(t, []uint64{1, 2, 3}, 1)
	checkLeast(t, []uint64{3, 2, 1}, 1)
	checkLeast(t, []uint64{2, 2, 2}, 2)
	checkLeast(t, []uint64{0, 5, 0}, 0)
	checkLeast(t, []uint64{5, 0, 5}, 0)
	checkLeast(t, []uint64{inf, 0, inf}, 0)
	checkLeast(t, []uint64{1 << 63, 1<<63 - 1}, 1<<63-1)
	checkLeast(t, []uint64{1 << 32, 1<<32 + 1, 2}, 2)
}

func TestLeastOfEdges(t *testing.T) {
	for _, a := range edges() {
		for _, b := range edges() {
			for _, c := range edges() {
				l := []uint64{a, b, c}
				checkLeast(t, l, slices.Min(l))
			}
		}
	}
}

func TestTimes(t *testing.T) {
	for _, c := range edges() {
		for _, n := range []int{0, -1, -2, math.MinInt32, math.MinInt + 1, math.MinInt} {
			checkTimes(t, c, n, 0)
		}
		checkTimes(t, c, 1, c)
	}
	checkTimes(t, 7, 2, 14)
	checkTimes(t, 7, 3, 21)
	checkTimes(t, 1, 1000, 1000)
	checkTimes(t, inf, 2, inf)
	checkTimes(t, inf-1, 2, inf)
	checkTimes(t, 1<<63-1, 2, inf-1)
	checkTimes(t, 1<<63, 2, inf)
	checkTimes(t, inf/3, 3, inf)
	checkTimes(t, inf/3-1, 3, inf-3)
	checkTimes(t, inf/3+1, 3, inf)
	// These would wrap round to less.
	checkTimes(t, 1<<32, 1<<32, inf)
	checkTimes(t, 1<<32+1, 1<<32, inf)
	checkTimes(t, 1<<32-1, 1<<32, inf-(1<<32-1))
	checkTimes(t, 1<<32-1, 1<<32+1, inf)
}

// R1: so great a number can't be gone through one by one.
func TestTimesOfGreatNumbers(t *testing.T) {
	checkTimes(t, 0, math.MaxInt, 0)
	checkTimes(t, 1, math.MaxInt, math.MaxInt)
	checkTimes(t, 2, math.MaxInt, inf-1)
	checkTimes(t, 3, math.MaxInt, inf)
	checkTimes(t, inf, math.MaxInt, inf)
	for _, c := range edges() {
		for _, d := range edges() {
			n := int(d & math.MaxInt)
			want := new(big.Int).Mul(wide(c), big.NewInt(int64(n)))
			checkTimes(t, c, n, cut(want))
		}
	}
}

func TestTimesIsSumSoManyTimes(t *testing.T) {
	for _, c := range edges() {
		var l []uint64
		for n := range 40 {
			checkTimes(t, c, n, Sum(l...))
			l = append(l, c)
		}
	}
}

// P2.3

func TestOrderDoesNotMatter(t *testing.T) {
	for _, a := range edges() {
		for _, b := range edges() {
			if Add(a, b) != Add(b, a) {
				t.Errorf("Add(%d, %d) is %d, the other way round %d", a, b, Add(a, b), Add(b, a))
			}
			for _, c := range edges() {
				if Add(Add(a, b), c) != Add(a, Add(b, c)) {
					t.Errorf("Add of %d, %d, %d hangs on which are added first", a, b, c)
				}
				sum, least := Sum(a, b, c), Least(a, b, c)
				for _, l := range [][]uint64{{a, c, b}, {b, a, c}, {b, c, a}, {c, a, b}, {c, b, a}} {
					checkSum(t, l, sum)
					checkLeast(t, l, least)
				}
			}
		}
	}
}

func TestAddDoesNotTurnRound(t *testing.T) {
	for _, a := range edges() {
		for _, b := range edges() {
			for _, c := range edges() {
				if a <= b && Add(a, c) > Add(b, c) {
					t.Errorf("%d is no more than %d, but with %d: %d, %d", a, b, c, Add(a, c), Add(b, c))
				}
			}
			if Add(a, b) < max(a, b) {
				t.Errorf("Add(%d, %d) is %d", a, b, Add(a, b))
			}
		}
	}
}

func TestWithInfAllIsInf(t *testing.T) {
	for _, c := range edges() {
		if Add(inf, c) != inf || Add(c, inf) != inf {
			t.Errorf("with %d: %d, %d", c, Add(inf, c), Add(c, inf))
		}
		for at := range 4 {
			checkSum(t, slices.Insert([]uint64{c, 0, c}, at, inf), inf)
			checkLeast(t, slices.Insert([]uint64{c, c, c}, at, inf), c)
		}
		checkTimes(t, inf, int(c>>1|1), inf)
	}
}

// R3: what is handed in is not changed, nor is its spare room.
func TestNothingIsChanged(t *testing.T) {
	for _, l := range [][]uint64{{3, 1, 2, 9, 9}, {inf, 0, 1, 9, 9}, {5, inf - 1, 7, 9, 9}} {
		kept := slices.Clone(l)
		Sum(l[:3]...)
		Least(l[:3]...)
		if !slices.Equal(l, kept) {
			t.Errorf("%v became %v", kept, l)
		}
	}
}
