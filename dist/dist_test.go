package dist

import (
	"cmp"
	"fmt"
	"math"
	"math/bits"
	"slices"
	"testing"

	"spellwright/api"
)

const (
	longest = 20
	inf     = 18446744073709551615
	half    = 1 << 63
)

// word is a text's signs.
func word(s string) []int {
	l := []int{}
	for _, r := range s {
		l = append(l, int(r))
	}
	return l
}

func costs(more, less, other, turned uint64, l ...api.Rule) api.Costs {
	return api.Costs{More: more, Less: less, Other: other, Turned: turned, Rules: l}
}

// ones are base steps for 1, and rules.
func ones(l ...api.Rule) api.Costs {
	return costs(1, 1, 1, 1, l...)
}

// dear are base steps for 1000, and rules.
func dear(l ...api.Rule) api.Costs {
	return costs(1000, 1000, 1000, 1000, l...)
}

func from(left, right string, cost uint64) api.Rule {
	return api.Rule{Left: word(left), Right: word(right), Cost: cost}
}

func deepRules(l []api.Rule) []api.Rule {
	out := []api.Rule{}
	for _, r := range l {
		out = append(out, api.Rule{Left: slices.Clone(r.Left), Right: slices.Clone(r.Right), Cost: r.Cost})
	}
	return out
}

func deepCosts(c api.Costs) api.Costs {
	c.Rules = deepRules(c.Rules)
	return c
}

func deepTable(t [][]uint64) [][]uint64 {
	out := [][]uint64{}
	for _, row := range t {
		out = append(out, slices.Clone(row))
	}
	return out
}

func alikeTables(a, b [][]uint64) bool {
	return slices.EqualFunc(a, b, slices.Equal[[]uint64])
}

func alikeSides(a, b api.Rule) bool {
	return slices.Equal(a.Left, b.Left) && slices.Equal(a.Right, b.Right)
}

func alikeRules(a, b []api.Rule) bool {
	return slices.EqualFunc(a, b, func(x, y api.Rule) bool { return alikeSides(x, y) && x.Cost == y.Cost })
}

func alikeCosts(a, b api.Costs) bool {
	return a.More == b.More && a.Less == b.Less && a.Other == b.Other && a.Turned == b.Turned && alikeRules(a.Rules, b.Rules)
}

// brief is what is told of a fault's costs, or words, which may be very long.
func brief(x any) string {
	s := fmt.Sprint(x)
	if len(s) > 300 {
		return s[:300] + " .."
	}
	return s
}

// lists are the lists of at most so many of these, the shorter ones first.
func lists(of []int, long int) [][]int {
	out := [][]int{{}}
	begin := 0
	for range long {
		end := len(out)
		for _, l := range out[begin:end] {
			for _, x := range of {
				out = append(out, append(slices.Clone(l), x))
			}
		}
		begin = end
	}
	return out
}

// dice are numbers that look like any, the same each time.
type dice uint64

func (d *dice) next() uint64 {
	*d = *d*6364136223846793005 + 1442695040888963407
	n := uint64(*d)
	return (n ^ n>>29) * 0xbf58476d1ce4e5b9
}

func (d *dice) below(n int) int {
	return int(d.next() >> 20 % uint64(n))
}

// some is a list of at most so many of these.
func (d *dice) some(of []int, long int) []int {
	l := []int{}
	for range d.below(long + 1) {
		l = append(l, of[d.below(len(of))])
	}
	return l
}

// rules are at most so many in order, of sides of these signs.
func (d *dice) rules(of []int, many int) []api.Rule {
	out := []api.Rule{}
	for range d.below(many + 1) {
		r := api.Rule{Left: d.some(of, 4), Right: d.some(of, 4), Cost: d.next() % 60}
		if !slices.Equal(r.Left, r.Right) {
			out = append(out, r)
		}
	}
	return inOrder(out)
}

func (d *dice) costs(of []int, many int) api.Costs {
	return costs(d.next()%50, d.next()%50, d.next()%50, d.next()%50, d.rules(of, many)...)
}

// inOrder are rules in order, the first one of those with the same sides.
func inOrder(l []api.Rule) []api.Rule {
	l = slices.Clone(l)
	slices.SortStableFunc(l, compareSides)
	return slices.CompactFunc(l, alikeSides)
}

// compareSides is less than 0 if a's sides stand ahead of b's.
func compareSides(a, b api.Rule) int {
	return cmp.Or(slices.Compare(a.Left, b.Left), slices.Compare(a.Right, b.Right))
}

// distinctRules are so many rules in order, of unlike sides.
func distinctRules(n int) []api.Rule {
	out := []api.Rule{}
	for i := range n {
		out = append(out, api.Rule{Left: []int{300 + i/7}, Right: []int{200 + i%7, 97}, Cost: uint64(5000 - i)})
	}
	return out
}

// goodSign says what the chapters say of a sign.
func goodSign(n int) bool {
	return n >= 0 && n < 55296 || n > 57343 && n <= 1114111
}

// slowFits says what the chapters say of a rule that fits.
func slowFits(r api.Rule) bool {
	for _, l := range [][]int{r.Left, r.Right} {
		if len(l) > 8 || slices.Equal(l, []int{95}) {
			return false
		}
		for _, n := range l {
			if !goodSign(n) || n == 9 || n == 10 || n == 32 {
				return false
			}
		}
	}
	return !slices.Equal(r.Left, r.Right) && r.Cost < inf
}

// slowCosts says what the chapter of rule files says of costs that may be.
func slowCosts(c api.Costs) bool {
	for _, n := range []uint64{c.More, c.Less, c.Other, c.Turned} {
		if n == inf {
			return false
		}
	}
	for i, r := range c.Rules {
		if !slowFits(r) || i > 0 && compareSides(c.Rules[i-1], r) >= 0 {
			return false
		}
	}
	return len(c.Rules) <= 200
}

// sum is a number of two halves, so that costs together are exact.
type sum struct{ high, low uint64 }

func (s sum) and(c uint64) sum {
	low, more := bits.Add64(s.low, c, 0)
	return sum{s.high + more, low}
}

func (s sum) less(t sum) bool {
	return s.high < t.high || s.high == t.high && s.low < t.low
}

// cost is the sum as a cost, that ends at Inf.
func (s sum) cost() uint64 {
	if s.high > 0 {
		return inf
	}
	return s.low
}

// none is more than any sum.
var none = sum{math.MaxUint64, math.MaxUint64}

// move is a step that may be done where the word w is to be made: so many are taken, and as many put as are told.
type move struct {
	eat, put int
	cost     uint64
}

// begins says whether some numbers stand in a list from a place on, number by number.
func begins(some, l []int, at int) bool {
	for k, n := range some {
		if at+k >= len(l) || l[at+k] != n {
			return false
		}
	}
	return true
}

// moves says what the chapters say of the steps of q at a place, that put what stands in w at another.
func moves(c api.Costs, q, w []int, i, j int) []move {
	out := []move{}
	if i < len(q) {
		out = append(out, move{1, 0, c.Less})
		if j < len(w) {
			out = append(out, move{1, 1, c.Other})
			if q[i] == w[j] {
				out = append(out, move{1, 1, 0})
			}
		}
	}
	if j < len(w) {
		out = append(out, move{0, 1, c.More})
	}
	if i+1 < len(q) && j+1 < len(w) && q[i] != q[i+1] && q[i] == w[j+1] && q[i+1] == w[j] {
		out = append(out, move{2, 2, c.Turned})
	}
	for _, r := range c.Rules {
		if begins(r.Left, q, i) && begins(r.Right, w, j) {
			out = append(out, move{len(r.Left), len(r.Right), r.Cost})
		}
	}
	return out
}

// fullOf is a table of q and w, with the same in each place.
func fullOf(q, w []int, s sum) [][]sum {
	out := [][]sum{}
	for range len(q) + 1 {
		out = append(out, slices.Repeat([]sum{s}, len(w)+1))
	}
	return out
}

func costsOf(t [][]sum) [][]uint64 {
	out := [][]uint64{}
	for _, row := range t {
		l := []uint64{}
		for _, s := range row {
			l = append(l, s.cost())
		}
		out = append(out, l)
	}
	return out
}

// byAllWays goes each way there is, step by step, and keeps the least that each place cost.
func byAllWays(c api.Costs, q, w []int) [][]uint64 {
	t := fullOf(q, w, none)
	var come func(i, j int, s sum)
	come = func(i, j int, s sum) {
		if s.less(t[i][j]) {
			t[i][j] = s
		}
		for _, m := range moves(c, q, w, i, j) {
			come(i+m.eat, j+m.put, s.and(m.cost))
		}
	}
	come(0, 0, sum{})
	return costsOf(t)
}

// bySettling takes costs on from each place, the last one first, till nothing changes any more.
func bySettling(c api.Costs, q, w []int) [][]uint64 {
	t := fullOf(q, w, none)
	t[0][0] = sum{}
	for again := true; again; {
		again = false
		for i := len(q); i >= 0; i-- {
			for j := len(w); j >= 0; j-- {
				if t[i][j] == none {
					continue
				}
				for _, m := range moves(c, q, w, i, j) {
					if s := t[i][j].and(m.cost); s.less(t[i+m.eat][j+m.put]) {
						t[i+m.eat][j+m.put], again = s, true
					}
				}
			}
		}
	}
	return costsOf(t)
}

// checkTable holds a table, and what the whole word costs, against these rows.
func checkTable(t *testing.T, c api.Costs, q, w []int, want ...[]uint64) {
	t.Helper()
	if got := Table(c, q, w); !alikeTables(got, want) {
		t.Fatalf("Table(%s, %s, %s) is %s, want %s", brief(c), brief(q), brief(w), brief(got), brief(want))
	}
	last := uint64(inf)
	if len(want) > 0 {
		row := want[len(want)-1]
		last = row[len(row)-1]
	}
	checkOf(t, c, q, w, last)
}

func checkOf(t *testing.T, c api.Costs, q, w []int, want uint64) {
	t.Helper()
	if got := Of(c, q, w); got != want {
		t.Fatalf("Of(%s, %s, %s) is %d, want %d", brief(c), brief(q), brief(w), got, want)
	}
}

// checkText is checkOf of texts' signs.
func checkText(t *testing.T, c api.Costs, q, w string, want uint64) {
	t.Helper()
	checkOf(t, c, word(q), word(w), want)
}

func checkNone(t *testing.T, c api.Costs, q, w []int) {
	t.Helper()
	checkTable(t, c, q, w)
}

// goodCosts are costs that may be.
func goodCosts() []api.Costs {
	eight := []api.Rule{}
	for i := range 200 {
		eight = append(eight, api.Rule{Left: slices.Repeat([]int{1000 + i}, 8), Right: slices.Repeat([]int{api.MaxRune}, 8), Cost: inf - 1})
	}
	everywhere := []api.Rule{}
	for i := range 200 {
		everywhere = append(everywhere, api.Rule{Right: []int{97 + i}, Cost: uint64(i)})
	}
	return []api.Costs{
		{}, ones(), dear(), costs(1, 2, 3, 4), costs(40, 30, 20, 10), costs(inf-1, inf-1, inf-1, inf-1), {Rules: []api.Rule{}},
		dear(from("f", "ph", 2)), costs(0, 0, 0, 0, from("", "s", 0)), costs(9, 8, 7, 6, from("s", "", inf-1)), dear(api.Rule{Right: []int{0}}, api.Rule{Left: []int{0}}),
		dear(from("", "a", 0), from("", "aa", 1), from("a", "", 127), from("a", "b", 128), from("aa", "", 3), from("b", "a", 3)),
		dear(distinctRules(3)...), costs(5, 6, 7, 8, distinctRules(199)...), costs(5, 6, 7, 8, distinctRules(200)...), costs(5, 6, 7, 8, eight...), dear(everywhere...),
		costs(half, half, half, half, from("a", "b", half), from("ab", "ba", half-1)),
	}
}

// badCosts are costs that may not be.
func badCosts() []api.Costs {
	out := []api.Costs{costs(inf, 1, 1, 1), costs(1, inf, 1, 1), costs(1, 1, inf, 1), costs(1, 1, 1, inf), costs(1, inf, 1, 1, from("a", "b", 1)), costs(inf, inf, inf, inf, distinctRules(201)...)}
	for _, l := range [][]api.Rule{
		{from("b", "a", 1), from("a", "b", 1)}, {from("a", "c", 1), from("a", "b", 1)}, {from("a", "b", 1), from("a", "", 1)}, {from("aa", "b", 1), from("a", "c", 1)},
		{from("a", "b", 1), from("a", "b", 1)}, {from("a", "b", 1), from("a", "b", 2)}, {from("a", "b", 2), from("a", "b", 1)}, {from("", "b", 1), from("a", "b", 2), from("a", "b", 2)},
		{{}}, {from("a", "a", 1)}, {from("ab", "ab", 0)}, {from("a", "b", inf)}, {from("a", "b c", 1)}, {from("a\t", "b", 1)}, {from("a", "\n", 1)}, {from("_", "b", 1)}, {from("a", "_", 1)},
		{from("abcdefghi", "b", 1)}, {from("a", "abcdefghi", 1)}, {{Left: []int{-1}}}, {{Right: []int{55296}}}, {{Left: []int{57343}, Right: []int{97}}}, {{Right: []int{1114112}}}, {{Right: []int{1<<32 + 97}}},
		{{Left: []int{math.MaxInt}}}, {{Left: []int{math.MinInt}}}, {{Left: make([]int, 100000)}}, {from("a", "b", 1), from("a", "c", inf)}, distinctRules(201), append(distinctRules(5), distinctRules(4)...), make([]api.Rule, 100000),
	} {
		out = append(out, ones(l...))
	}
	return out
}

// goodWords are what may be asked, and made: no number of it need be a sign.
func goodWords() [][]int {
	return [][]int{
		nil, {}, word("a"), word("b"), word("ab"), word("ba"), word("aa"), word("abc"), word("aab"), word("abb"), word("ff"), word("phph"), word("sss"), word("ssss"), word(" \t\n#_"),
		word("aaaaaaaaaaaaaaaaaaaa"), word("abcdefghijklmnopqrst"), word("abababababababababab"), word("babababababababababa"), word("abbabbabbabbabbabba"),
		{0}, {0, 0, 1}, {-1}, {-1, -1, -2}, {55296, 57343}, {1114111, 1114112}, {math.MaxInt, math.MinInt}, {math.MinInt}, {1<<32 + 97, 97}, {300, 301, 300}, {200, 97, 201, 97}, make([]int, 20), slices.Repeat([]int{1005}, 20), slices.Repeat([]int{api.MaxRune}, 16),
	}
}

// badWords are too long to be asked, or made.
func badWords() [][]int {
	return [][]int{make([]int, 21), word("abcdefghijklmnopqrstu"), make([]int, 22), make([]int, 40), slices.Repeat([]int{-1}, 21), make([]int, 100000), make([]int, 1<<20)}
}

// P18.1

func TestTableOfTheExample(t *testing.T) {
	checkTable(t, ones(), word("ab"), word("ba"), []uint64{0, 1, 2}, []uint64{1, 1, 1}, []uint64{2, 1, 1})
}

func TestTableOfUnlikeCosts(t *testing.T) {
	// Two turned cost more than b ahead of a, and the other b less.
	checkTable(t, costs(10, 20, 30, 40), word("ab"), word("ba"), []uint64{0, 10, 20}, []uint64{20, 30, 10}, []uint64{40, 20, 30})
	checkTable(t, costs(10, 20, 30, 29), word("ab"), word("ba"), []uint64{0, 10, 20}, []uint64{20, 30, 10}, []uint64{40, 20, 29})
	checkTable(t, costs(10, 20, 25, 99), word("ab"), word("cd"), []uint64{0, 10, 20}, []uint64{20, 25, 35}, []uint64{40, 45, 50})
	checkTable(t, costs(10, 20, 31, 99), word("ab"), word("cd"), []uint64{0, 10, 20}, []uint64{20, 30, 40}, []uint64{40, 50, 60})
	checkTable(t, costs(3, 5, 7, 9), word("abc"), word("ac"), []uint64{0, 3, 6}, []uint64{5, 0, 3}, []uint64{10, 5, 7}, []uint64{15, 10, 5})
	checkTable(t, costs(3, 5, 7, 9), word("ac"), word("abc"), []uint64{0, 3, 6, 9}, []uint64{5, 0, 3, 6}, []uint64{10, 5, 7, 3})
}

func TestTableOfNothing(t *testing.T) {
	for _, c := range goodCosts() {
		for _, q := range [][]int{nil, {}, word("abc")[:0]} {
			for _, w := range [][]int{nil, {}, word("abc")[:0]} {
				checkTable(t, c, q, w, []uint64{0})
			}
		}
	}
	c := costs(10, 20, 30, 40)
	checkTable(t, c, nil, word("ab"), []uint64{0, 10, 20})
	checkTable(t, c, word("ab"), nil, []uint64{0}, []uint64{20}, []uint64{40})
	checkTable(t, c, nil, word("aaaa"), []uint64{0, 10, 20, 30, 40})
	checkTable(t, c, word("aa"), []int{}, []uint64{0}, []uint64{20}, []uint64{40})
	checkTable(t, costs(0, 20, 30, 40), nil, word("abc"), []uint64{0, 0, 0, 0})
	checkTable(t, costs(10, 0, 30, 40), word("ab"), nil, []uint64{0}, []uint64{0}, []uint64{0})
	// Rules make something of nothing, and nothing of something, too.
	c.Rules = []api.Rule{from("", "ab", 3), from("", "b", 9), from("a", "", 7), from("ba", "", 1)}
	checkTable(t, c, nil, word("abb"), []uint64{0, 10, 3, 12})
	checkTable(t, c, word("aba"), nil, []uint64{0}, []uint64{7}, []uint64{27}, []uint64{8})
}

// The words of the document's own examples.
func TestOfTheWholesExamples(t *testing.T) {
	for w, want := range map[string]uint64{"ab": 0, "abc": 1, "b": 1} {
		checkText(t, ones(), "ab", w, want)
	}
	for w, want := range map[string]uint64{"fa": 0, "pha": 2, "phb": 11} {
		checkText(t, costs(9, 9, 9, 9, from("f", "ph", 2)), "fa", w, want)
	}
	for _, w := range []string{"", "s", "ss"} {
		checkText(t, ones(from("", "s", 0)), "", w, 0)
	}
}

func TestTableOfTheLongestWords(t *testing.T) {
	q, w := word("abcdefghijklmnopqrstu"), word("bcdefghijklmnopqrstuv")
	for _, c := range []api.Costs{ones(), {}, dear(from("", "a", 1))} {
		for n := range 22 {
			for _, k := range []int{0, 1, 19, 20, 21} {
				for _, of := range [][2][]int{{q[:n], w[:k]}, {q[:k], w[:n]}} {
					if n > longest || k > longest {
						checkNone(t, c, of[0], of[1])
						continue
					}
					checkTable(t, c, of[0], of[1], bySettling(c, of[0], of[1])...)
				}
			}
		}
	}
	checkOf(t, ones(), q[:20], w[:20], 2)
	checkOf(t, costs(3, 5, 7, 9), q[:20], nil, 100)
	checkOf(t, costs(3, 5, 7, 9), nil, w[:20], 60)
	checkOf(t, costs(3, 5, 7, 9), slices.Repeat(word("a"), 20), slices.Repeat(word("b"), 20), 140)
	checkOf(t, costs(3, 5, 9, 9), slices.Repeat(word("a"), 20), slices.Repeat(word("b"), 20), 160)
}

func TestTableOfWordsThatAreTooLong(t *testing.T) {
	for _, long := range badWords() {
		for _, c := range append(goodCosts()[:9], badCosts()[:9]...) {
			for _, w := range [][]int{nil, word("a"), make([]int, 20), long} {
				checkNone(t, c, long, w)
				checkNone(t, c, w, long)
			}
		}
	}
}

func TestTableOfCostsThatMayNotBe(t *testing.T) {
	for _, c := range badCosts() {
		for _, q := range goodWords() {
			checkNone(t, c, q, word("ab"))
			checkNone(t, c, word("ab"), q)
			checkNone(t, c, q, q)
		}
		checkNone(t, c, nil, nil)
	}
}

// A step by which nothing is made here may not cost Inf all the same; the most that it may cost is as far as it goes.
func TestTableOfTheDearestCosts(t *testing.T) {
	checkNone(t, costs(1, 1, 1, inf), word("a"), word("a"))
	checkNone(t, ones(from("x", "y", inf)), word("a"), word("a"))
	checkTable(t, costs(inf-1, inf-1, inf-1, inf-1), word("a"), word("a"), []uint64{0, inf - 1}, []uint64{inf - 1, 0})
	checkTable(t, costs(inf-1, inf-1, inf-1, inf-1), word("ab"), word("ba"), []uint64{0, inf - 1, inf}, []uint64{inf - 1, inf - 1, inf - 1}, []uint64{inf, inf - 1, inf - 1})
	checkTable(t, costs(inf-1, inf-1, inf-1, inf-1), word("ab"), word("cd"), []uint64{0, inf - 1, inf}, []uint64{inf - 1, inf - 1, inf}, []uint64{inf, inf, inf})
	checkTable(t, costs(inf-1, inf-1, inf-1, inf-1), word("abc"), word("c"), []uint64{0, inf - 1}, []uint64{inf - 1, inf - 1}, []uint64{inf, inf}, []uint64{inf, inf})
}

// Costs together end at Inf, wherever they would wrap round to.
func TestTableOfCostsThatPassInf(t *testing.T) {
	for _, x := range []struct{ one, two uint64 }{{half, inf}, {half - 1, inf - 1}, {half + 1, inf}, {inf / 3, inf / 3 * 2}, {1 << 62, half}, {inf - 1, inf}, {inf - 2, inf}, {3, 6}} {
		checkTable(t, costs(x.one, inf-1, inf-1, inf-1), nil, word("ab"), []uint64{0, x.one, x.two})
		checkTable(t, costs(inf-1, x.one, inf-1, inf-1), word("ab"), nil, []uint64{0}, []uint64{x.one}, []uint64{x.two})
		checkOf(t, costs(inf-1, inf-1, x.one, inf-1), word("ab"), word("cd"), x.two)
		checkOf(t, costs(inf-1, inf-1, inf-1, x.one), word("abab"), word("baba"), x.two)
		checkOf(t, costs(inf-1, inf-1, inf-1, inf-1, from("a", "b", x.one)), word("aa"), word("bb"), x.two)
	}
	// Unlike ones come to just below Inf, to it, and beyond.
	for more := range uint64(5) {
		want := inf - 3 + min(more, 3) // c more, and b less
		checkOf(t, costs(more, inf-3, inf-1, 7), word("ab"), word("ca"), want)
		checkOf(t, costs(more, inf-3, inf-1, 7, from("ab", "ca", 8)), word("ab"), word("ca"), 8)
	}
	// Three, of which no two pass Inf.
	checkOf(t, costs(inf/2, inf/2, inf-1, inf-1), nil, word("aa"), inf-1)
	checkOf(t, costs(inf/2, inf/2, inf-1, inf-1), nil, word("aaa"), inf)
	checkOf(t, costs(inf/3, inf-1, inf-1, inf-1), nil, word("aaa"), inf)
	checkOf(t, costs(inf/3-1, inf-1, inf-1, inf-1), nil, word("aaa"), inf-3)
	checkOf(t, costs(inf/4, inf-1, inf-1, inf-1), nil, word("aaaaaaaaaaaaaaaaaaaa"), inf)
}

// A way that passes Inf does not hide one that does not, whichever comes first.
func TestTableOfWaysBesideThoseThatPassInf(t *testing.T) {
	far := costs(inf-1, inf-1, inf-1, inf-1)
	for _, l := range [][]api.Rule{
		{from("ab", "cd", 5)}, {from("a", "", inf-1), from("ab", "cd", 5)}, {from("", "cd", 4), from("a", "", 0), from("b", "", 1)},
		{from("", "c", 1), from("", "d", 1), from("ab", "", 3)}, {from("a", "c", 2), from("b", "d", 3)}, {from("", "c", 5), from("a", "d", 0), from("b", "", 0)},
		{from("", "c", 5), from("a", "", 0), from("a", "d", inf-6), from("b", "d", 0)},
	} {
		far.Rules = l
		checkOf(t, far, word("ab"), word("cd"), 5)
		checkTable(t, far, word("ab"), word("cd"), byAllWays(far, word("ab"), word("cd"))...)
	}
}

func TestTableOfNumbersThatAreNoSigns(t *testing.T) {
	some := []int{-1, 0, 9, 10, 32, 35, 95, 55295, 55296, 57343, 57344, 1114111, 1114112, math.MaxInt32, 1 << 32, math.MinInt, math.MaxInt}
	c := costs(10, 20, 25, 28)
	for _, a := range some {
		checkTable(t, c, []int{a}, []int{a}, []uint64{0, 10}, []uint64{20, 0})
		checkTable(t, c, nil, []int{a}, []uint64{0, 10})
		checkTable(t, c, []int{a}, nil, []uint64{0}, []uint64{20})
		for _, b := range some {
			if a == b {
				continue
			}
			checkTable(t, c, []int{a}, []int{b}, []uint64{0, 10}, []uint64{20, 25})
			checkTable(t, c, []int{a, b}, []int{b, a}, []uint64{0, 10, 20}, []uint64{20, 25, 10}, []uint64{40, 20, 28})
			checkOf(t, dear(from("", "x", 1)), []int{a, b}, []int{120, a, 120, b}, 2)
		}
	}
}

// Only the lowest bits, or the sign, of two numbers are alike.
func TestTableOfNumbersThatAreNearlyAlike(t *testing.T) {
	c := costs(100, 100, 7, 3, from("a", "b", 1), from("aa", "bb", 0))
	for bit := range 64 {
		near := int(97 ^ uint64(1)<<bit)
		checkTable(t, c, []int{97}, []int{near}, bySettling(c, []int{97}, []int{near})...)
		for _, q := range [][]int{{97, near}, {near, 97}, {97, near, 97}, {97, 97, near}} {
			for _, w := range [][]int{{97, near}, {near, 97}, {near, near}, {98, 98}, {97, 97}, {97, near, 98}} {
				checkTable(t, c, q, w, byAllWays(c, q, w)...)
			}
		}
	}
	checkOf(t, c, []int{97}, []int{97 ^ 1<<40}, 7)
	checkOf(t, c, []int{97 ^ 1<<40}, []int{98}, 7)
}

func TestTableOfRules(t *testing.T) {
	for _, x := range []struct {
		rules []api.Rule
		q, w  string
		want  uint64
	}{
		{nil, "a", "b", 1000},
		{[]api.Rule{from("a", "b", 5)}, "a", "b", 5},
		{[]api.Rule{from("a", "b", 5)}, "b", "a", 1000},
		{[]api.Rule{from("a", "b", 5)}, "aaa", "bab", 10},
		{[]api.Rule{from("a", "b", 5), from("b", "c", 5)}, "a", "c", 1000}, // What is put is not taken again.
		{[]api.Rule{from("f", "ph", 2)}, "ff", "phph", 4},
		{[]api.Rule{from("ph", "f", 2)}, "phph", "ff", 4},
		{[]api.Rule{from("f", "ph", 2)}, "f", "p", 1000},
		{[]api.Rule{from("f", "ph", 2)}, "f", "h", 1000},
		{[]api.Rule{from("f", "ph", 2)}, "f", "phx", 1002},
		{[]api.Rule{from("f", "ph", 2)}, "xf", "xph", 2},
		{[]api.Rule{from("f", "ph", 2)}, "fx", "phx", 2},
		// Left is empty: something of nothing, one behind the other at one place.
		{[]api.Rule{from("", "s", 3)}, "", "s", 3},
		{[]api.Rule{from("", "s", 3)}, "", "ssss", 12},
		{[]api.Rule{from("", "s", 3)}, "a", "sas", 6},
		{[]api.Rule{from("", "s", 3), from("", "xy", 4)}, "", "sxys", 10},
		{[]api.Rule{from("", "s", 3), from("", "xy", 4)}, "", "xysxy", 11},
		{[]api.Rule{from("", "s", 3), from("", "xy", 4)}, "a", "sxyaxys", 14},
		{[]api.Rule{from("", "s", 3), from("", "ss", 4)}, "", "sss", 7},
		{[]api.Rule{from("", "s", 3), from("", "ss", 7)}, "", "sss", 9},
		{[]api.Rule{from("", "s", 3), from("s", "", 4)}, "s", "", 4},
		{[]api.Rule{from("", "s", 0)}, "", "ssssssssssssssssssss", 0},
		{[]api.Rule{from("", "sssssssss"[:8], 1)}, "", "ssssssssssssssss", 2},
		{[]api.Rule{from("", "s", 1), from("a", "", 2)}, "a", "s", 3},
		// Right is empty.
		{[]api.Rule{from("s", "", 3)}, "ssss", "", 12},
		{[]api.Rule{from("s", "", 3), from("xy", "", 4)}, "xysaxys", "a", 14},
		{[]api.Rule{from("s", "", 3), from("ss", "", 4)}, "sss", "", 7},
		{[]api.Rule{from("s", "", 3), from("ss", "", 4)}, "sss", "s", 4},
		{[]api.Rule{from("s", "", 0)}, "ssssssssssssssssssss", "", 0},
		{[]api.Rule{from("sx", "", 1)}, "s", "", 1000},
		// More is taken, or put, than is there; or just what is there.
		{[]api.Rule{from("ab", "c", 1)}, "a", "c", 1000},
		{[]api.Rule{from("ab", "c", 1)}, "ab", "c", 1},
		{[]api.Rule{from("ab", "c", 1)}, "xab", "xc", 1},
		{[]api.Rule{from("ab", "c", 1)}, "xa", "xc", 1000},
		{[]api.Rule{from("a", "bc", 1)}, "a", "b", 1000},
		{[]api.Rule{from("a", "bc", 1)}, "a", "bc", 1},
		{[]api.Rule{from("a", "bc", 1)}, "xa", "xbc", 1},
		{[]api.Rule{from("a", "bc", 1)}, "xa", "xb", 1000},
		{[]api.Rule{from("a", "bc", 1)}, "a", "c", 1000},
		{[]api.Rule{from("abc", "xyz", 1)}, "abc", "xyz", 1},
		{[]api.Rule{from("abc", "xyz", 1)}, "abc", "xy", 3000},
		{[]api.Rule{from("abc", "xyz", 1)}, "ab", "xyz", 3000},
		{[]api.Rule{from("abc", "xyz", 1)}, "abc", "xyzz", 1001},
		{[]api.Rule{from("abc", "xyz", 1)}, "abcc", "xyz", 1001},
		{[]api.Rule{from("abc", "xyz", 1)}, "abd", "xyz", 3000},
		{[]api.Rule{from("abc", "xyz", 1)}, "abc", "xyd", 3000},
		// Rules do not touch one another.
		{[]api.Rule{from("ab", "x", 1), from("bc", "y", 1)}, "abc", "xy", 1001},
		{[]api.Rule{from("ab", "x", 1), from("bc", "y", 1)}, "abbc", "xy", 2},
		{[]api.Rule{from("a", "x", 9), from("ab", "xy", 11), from("b", "y", 3)}, "ab", "xy", 11},
		{[]api.Rule{from("a", "x", 9), from("ab", "xy", 13), from("b", "y", 3)}, "ab", "xy", 12},
		// What a base step does is done for less, for more, or for the same.
		{[]api.Rule{from("a", "", 7)}, "ab", "b", 7},
		{[]api.Rule{from("a", "", 1007)}, "ab", "b", 1000},
		{[]api.Rule{from("a", "", 1000)}, "ab", "b", 1000},
		{[]api.Rule{from("", "a", 7)}, "b", "ab", 7},
		{[]api.Rule{from("", "a", 1007)}, "b", "ab", 1000},
		{[]api.Rule{from("", "a", 1000)}, "b", "ab", 1000},
		{[]api.Rule{from("a", "b", 1007)}, "a", "b", 1000},
		{[]api.Rule{from("a", "b", 1000)}, "a", "b", 1000},
		{[]api.Rule{from("ab", "ba", 7)}, "ab", "ba", 7},
		{[]api.Rule{from("ab", "ba", 1007)}, "ab", "ba", 1000},
		{[]api.Rule{from("ab", "ba", 1000)}, "ab", "ba", 1000},
		{[]api.Rule{from("ab", "ba", 7)}, "ba", "ab", 1000},
		{[]api.Rule{from("abcdefgh", "abcdefg", 7)}, "abcdefgh", "abcdefg", 7},
		{[]api.Rule{from("a", "b", inf-1)}, "a", "b", 1000},
	} {
		checkText(t, dear(x.rules...), x.q, x.w, x.want)
		q, w := word(x.q), word(x.w)
		checkTable(t, dear(x.rules...), q, w, bySettling(dear(x.rules...), q, w)...)
	}
}

// A rule's sides stand at each place, whole or with one number less, more, or other.
func TestTableOfLongRules(t *testing.T) {
	q, w := word("abcdefghabcdefghabcd"), word("rstuvwxyrstuvwxyrstu")
	for i := range q {
		for n := 1; n <= api.MaxSide && i+n <= len(q); n++ {
			r := api.Rule{Left: q[i : i+n], Right: w[i : i+n], Cost: 3}
			c := dear(r)
			made := slices.Concat(q[:i], w[i:i+n], q[i+n:])
			checkOf(t, c, q, made, 3)
			checkOf(t, c, q[i:i+n], w[i:i+n], 3)
			checkOf(t, c, q[:i+n-1], made[:i+n-1], uint64(1000*(n-1)))
			checkOf(t, c, q[:i+n], made[:i+n], 3)
			for k := range n {
				c.Rules[0].Left = slices.Clone(r.Left)
				c.Rules[0].Left[k]++
				checkOf(t, c, q[i:i+n], w[i:i+n], uint64(1000*n))
				c.Rules[0].Left, c.Rules[0].Right = r.Left, slices.Clone(r.Right)
				c.Rules[0].Right[k]++
				checkOf(t, c, q[i:i+n], w[i:i+n], uint64(1000*n))
				c.Rules[0].Right = r.Right
			}
			c.Rules[0].Right = nil
			checkOf(t, c, q, slices.Concat(q[:i], q[i+n:]), 3)
			c.Rules[0].Left, c.Rules[0].Right = nil, r.Right
			checkOf(t, c, q[n:], slices.Concat(q[n:i+n], w[i:i+n], q[i+n:]), 3)
		}
	}
}

// What is turned is not touched by another step: c more between them would be.
func TestTableOfTwoTurned(t *testing.T) {
	turn := costs(1000, 1000, 1000, 5)
	for _, x := range []struct {
		q, w string
		want uint64
	}{
		{"ab", "ba", 5}, {"abc", "bac", 5}, {"abc", "acb", 5}, {"abc", "cba", 2000}, {"abc", "bca", 2000}, {"abcd", "badc", 10}, {"abab", "baba", 10}, {"aab", "aba", 5}, {"aab", "baa", 2000},
		{"abc", "cab", 2000}, {"ca", "abc", 3000}, {"ca", "acb", 1005}, {"ab", "b", 1000}, {"ab", "bab", 1000}, {"ab", "aba", 1000}, {"ab", "bac", 1005}, {"ab", "cba", 1005}, {"aa", "aa", 0}, {"ab", "ab", 0}, {"ab", "bb", 1000},
		{"xaby", "xbay", 5}, {"ab", "dc", 2000}, {"ab", "bc", 2000}, {"ab", "ca", 2000}, {"abababababababababab", "babababababababababa", 50},
	} {
		checkText(t, turn, x.q, x.w, x.want)
		checkText(t, costs(1000, 1000, 1000, 0), x.q, x.w, x.want/1000*1000)
	}
	checkText(t, ones(), "ca", "abc", 3)
	checkText(t, ones(), "ac", "cba", 3)
	checkText(t, ones(), "ac", "cab", 2)
	// Of alike ones none is turned, which would cost nothing here, and change nothing.
	checkText(t, costs(9, 9, 9, 0), "aa", "aa", 0)
	checkText(t, costs(9, 9, 9, 0), "aa", "bb", 18)
	// Dear as it is, it is done in other ways.
	checkText(t, costs(1, 2, 9, 4), "ab", "ba", 3)
	checkText(t, costs(9, 9, 1, 4), "ab", "ba", 2)
}

func TestTableOfStepsThatCostNothing(t *testing.T) {
	words := lists([]int{97, 98}, 3)
	for _, c := range []api.Costs{{}, costs(0, 0, 9, 9), costs(0, 9, 0, 9), costs(9, 0, 0, 9), costs(9, 0, 9, 9), costs(0, 9, 9, 9), costs(9, 9, 0, 9), costs(9, 9, 9, 0), costs(9, 9, 9, 9, from("", "a", 0), from("", "b", 0), from("a", "", 0), from("b", "", 0))} {
		for _, q := range words {
			for _, w := range words {
				want := byAllWays(c, q, w)
				checkTable(t, c, q, w, want...)
				if free := c.More == 0 && c.Less == 0 || len(c.Rules) > 0; free && want[len(q)][len(w)] != 0 {
					t.Fatalf("%v of %v is to cost nothing", w, q)
				}
			}
		}
	}
	// Some cost, and those that cost nothing stand ahead of them, behind them, and between.
	c := costs(1, 1, 1, 1, from("", "s", 0), from("", "ss", 2), from("x", "", 0), from("xx", "y", 3))
	checkText(t, c, "xxaxx", "sssas", 0)
	checkText(t, c, "xxaxx", "sssbs", 1)
	checkText(t, c, "xxaxx", "syasy", 2)
	checkText(t, c, "xx", "y", 1)
	checkText(t, c, "xxxx", "yy", 2)
	checkText(t, c, "", "sssssssssssssssssss", 0)
	checkText(t, c, "xxxxxxxxxxxxxxxxxxxx", "sssssssssssssssssss", 0)
}

// What stands beyond the first i, or the first j, does not count: each place is what the words' parts cost.
func TestTableIsOfEachOfBothsParts(t *testing.T) {
	check := func(c api.Costs, q, w []int) {
		t.Helper()
		table := Table(c, q, w)
		if len(table) != len(q)+1 {
			t.Fatalf("Table(%s, %v, %v) has %d rows", brief(c), q, w, len(table))
		}
		for i, row := range table {
			if len(row) != len(w)+1 {
				t.Fatalf("Table(%s, %v, %v) has %d numbers at %d", brief(c), q, w, len(row), i)
			}
			for j, n := range row {
				checkOf(t, c, q[:i], w[:j], n)
				checkOf(t, c, q[:i:i], slices.Clone(w[:j]), n)
			}
		}
	}
	c := dear(from("", "xyz", 1), from("ab", "", 2), from("abc", "x", 3), from("b", "xy", 4), from("bc", "y", 5))
	for _, q := range []string{"", "a", "ab", "abc", "abcabc", "bcba"} {
		for _, w := range []string{"", "x", "xy", "xyz", "xyzx", "yxyab"} {
			check(c, word(q), word(w))
		}
	}
	checkTable(t, c, word("abc"), word("x"), []uint64{0, 1000}, []uint64{1000, 1000}, []uint64{2, 1002}, []uint64{1002, 3})
	checkTable(t, c, word("b"), word("xyz"), []uint64{0, 1000, 2000, 1}, []uint64{1000, 1000, 4, 1001})
	var d dice = 18
	for range 300 {
		signs := []int{97, 98, 99, 100}[:1+d.below(4)]
		check(d.costs(signs, 20), d.some(signs, 9), d.some(signs, 9))
	}
}

// All short words, with each rule of short sides, against all ways of steps one behind the other.
func TestTableOfAllShortWords(t *testing.T) {
	signs := []int{97, 98}
	for _, q := range lists(signs, 4) {
		for _, w := range lists(signs, 4) {
			for _, c := range []api.Costs{ones(), costs(3, 4, 5, 6), costs(5, 4, 3, 2)} {
				checkTable(t, c, q, w, byAllWays(c, q, w)...)
			}
		}
	}
	sides, words := lists(signs, 2), lists(signs, 3)
	all := []api.Rule{}
	for _, left := range sides {
		for _, right := range sides {
			if slices.Equal(left, right) {
				continue
			}
			r := api.Rule{Left: left, Right: right, Cost: uint64(len(all) % 7)}
			all = append(all, r)
			c := costs(3, 4, 5, 6, r)
			for _, q := range words {
				for _, w := range words {
					checkTable(t, c, q, w, byAllWays(c, q, w)...)
				}
			}
		}
	}
	c := costs(3, 4, 5, 6, inOrder(all)...)
	for _, q := range words {
		for _, w := range words {
			checkTable(t, c, q, w, byAllWays(c, q, w)...)
		}
	}
}

func TestTableOfThreeSigns(t *testing.T) {
	words := lists([]int{97, 98, 8364}, 3)
	for _, c := range []api.Costs{ones(), costs(9, 7, 5, 6, from("", "ab", 4), from("a", "", 3), from("ab", "€", 1), from("b", "a€", 2), from("€", "bb", 0), from("€a", "b", 8))} {
		for _, q := range words {
			for _, w := range words {
				checkTable(t, c, q, w, byAllWays(c, q, w)...)
			}
		}
	}
}

func TestTableOfManyRules(t *testing.T) {
	var d dice = 1
	for range 3000 {
		signs := []int{97, 98, 99, 8364}[:1+d.below(4)]
		c := d.costs(signs, 30)
		q, w := d.some(append(signs, -1), longest), d.some(append(signs, -1), longest)
		checkTable(t, c, q, w, bySettling(c, q, w)...)
	}
	// Numbers beside Inf, of which few are together below it.
	for range 3000 {
		c := d.costs([]int{97, 98}, 20)
		for _, n := range []*uint64{&c.More, &c.Less, &c.Other, &c.Turned} {
			*n = d.great()
		}
		for i := range c.Rules {
			c.Rules[i].Cost = d.great()
		}
		q, w := d.some([]int{97, 98}, 7), d.some([]int{97, 98}, 7)
		checkTable(t, c, q, w, bySettling(c, q, w)...)
	}
}

// great is a cost that may be, not far from a part of Inf, or from nothing.
func (d *dice) great() uint64 {
	n := uint64(inf)/uint64(1+d.below(6)) - d.next()%3 - 1
	if d.below(4) == 0 {
		return d.next() % 3
	}
	return n
}

func TestTableOfGoodCostsAndWords(t *testing.T) {
	for _, c := range goodCosts() {
		for _, q := range goodWords() {
			for _, w := range goodWords() {
				if got, want := Table(c, q, w), bySettling(c, q, w); !alikeTables(got, want) {
					t.Fatalf("Table(%s, %s, %s) is %s, want %s", brief(c), brief(q), brief(w), brief(got), brief(want))
				}
			}
		}
	}
}

// P18.2

func TestOfIsTheLastNumber(t *testing.T) {
	for _, c := range append(goodCosts(), badCosts()...) {
		mayBe := slowCosts(c)
		for _, q := range append(goodWords()[:20], badWords()...) {
			for _, w := range append(goodWords()[5:12], badWords()[:3]...) {
				table := Table(c, q, w)
				if may := mayBe && len(q) <= longest && len(w) <= longest; may != (len(table) > 0) {
					t.Fatalf("Table(%s, %s, %s) is there: %t", brief(c), brief(q), brief(w), !may)
				}
				want := uint64(inf)
				if len(table) > 0 {
					row := table[len(table)-1]
					want = row[len(row)-1]
				}
				checkOf(t, c, q, w, want)
			}
		}
	}
	checkText(t, ones(), "kitten", "sitting", 3)
	checkText(t, ones(), "sitting", "kitten", 3)
	checkText(t, costs(10, 20, 30, 40), "kitten", "sitting", 70)
	checkText(t, costs(10, 20, 30, 40), "sitting", "kitten", 80)
	checkText(t, costs(10, 20, 30, 40), "abc", "", 60)
	checkText(t, costs(10, 20, 30, 40), "", "abc", 30)
	checkOf(t, costs(1, 1, 1, inf), nil, nil, inf)
	checkOf(t, ones(), make([]int, 21), make([]int, 21), inf)
}

// P18.3

func TestAWordMadeOfItselfCostsNothing(t *testing.T) {
	for _, c := range goodCosts() {
		for _, q := range goodWords() {
			table := Table(c, q, q)
			for i := range table {
				if table[i][i] != 0 {
					t.Fatalf("%d of %s costs %d, by %s", i, brief(q), table[i][i], brief(c))
				}
			}
			checkOf(t, c, q, slices.Clone(q), 0)
		}
	}
}

func together(a, b uint64) uint64 {
	if a+b < a {
		return inf
	}
	return a + b
}

func TestTwoPartsCostNoMoreThanBoth(t *testing.T) {
	var d dice = 2
	all := goodCosts()
	for n := range 3000 {
		signs := []int{97, 98, 99}[:1+d.below(3)]
		c := d.costs(signs, 20)
		if n%3 == 0 {
			c = all[d.below(len(all))]
		}
		q, w, r, v := d.some(signs, 10), d.some(signs, 10), d.some(signs, 10), d.some(signs, 10)
		if got, both := Of(c, slices.Concat(q, r), slices.Concat(w, v)), together(Of(c, q, w), Of(c, r, v)); got > both {
			t.Fatalf("of %v and %v, %v and %v cost %d, which is more than %d, by %s", q, r, w, v, got, both, brief(c))
		}
	}
	// It may be less.
	checkText(t, ones(), "ab", "ba", 1)
	checkText(t, ones(), "a", "b", 1)
	checkText(t, ones(), "b", "a", 1)
}

func TestWithMoreRulesAWordCostsNoMore(t *testing.T) {
	var d dice = 3
	for range 2000 {
		signs := []int{97, 98, 99}[:1+d.below(3)]
		c := d.costs(signs, 12)
		q, w := d.some(signs, 12), d.some(signs, 12)
		with := c
		with.Rules = inOrder(append(deepRules(c.Rules), d.rules(signs, 12)...))
		few, many := Table(c, q, w), Table(with, q, w)
		for i := range few {
			for j := range few[i] {
				if many[i][j] > few[i][j] {
					t.Fatalf("of %v, %v costs %d at %d, %d, and %d with rules %s beside %s", q, w, few[i][j], i, j, many[i][j], brief(with), brief(c))
				}
			}
		}
	}
}

// distance is that by signs more, less, other, and turned.
func distance(q, w []int) [][]uint64 {
	t := [][]uint64{}
	for i := range len(q) + 1 {
		t = append(t, make([]uint64, len(w)+1))
		for j := range t[i] {
			if i == 0 || j == 0 {
				t[i][j] = uint64(i + j)
				continue
			}
			unlike := uint64(1)
			if q[i-1] == w[j-1] {
				unlike = 0
			}
			t[i][j] = min(t[i-1][j]+1, t[i][j-1]+1, t[i-1][j-1]+unlike)
			if i > 1 && j > 1 && q[i-1] == w[j-2] && q[i-2] == w[j-1] {
				t[i][j] = min(t[i][j], t[i-2][j-2]+1)
			}
		}
	}
	return t
}

func TestWithoutRulesItIsTheDistance(t *testing.T) {
	for _, q := range lists([]int{97, 98, 99}, 4) {
		for _, w := range lists([]int{97, 98, 99}, 4) {
			checkTable(t, ones(), q, w, distance(q, w)...)
		}
	}
	for _, q := range goodWords() {
		for _, w := range goodWords() {
			checkTable(t, ones(), q, w, distance(q, w)...)
			// Each step costs the same, whichever way they go.
			checkOf(t, ones(), w, q, Of(ones(), q, w))
		}
	}
	var d dice = 4
	for range 2000 {
		signs := []int{97, 98, 99, 100, 101}[:1+d.below(5)]
		q, w := d.some(signs, longest), d.some(signs, longest)
		checkTable(t, ones(), q, w, distance(q, w)...)
	}
}

// R3

// What is handed in are parts of longer lists, whose rest is to stay as it is.
func TestNothingHandedInIsChanged(t *testing.T) {
	signs := word("abcabcxyz")
	rules := []api.Rule{{Left: signs[0:1], Right: signs[1:2], Cost: 1}, {Left: signs[0:2], Right: signs[6:8], Cost: 2}, {Left: signs[1:3], Right: signs[4:4], Cost: 3}, {Left: signs[5:6], Right: signs[0:8], Cost: 4}, from("a", "a", 9), {}}
	letters, other := word("abcbaabcabcabcabcabcabc"), word("xycbbaxyabcabcxyabcabcx")
	keptRules, keptSigns, keptLetters, keptOther := deepRules(rules), slices.Clone(signs), slices.Clone(letters), slices.Clone(other)
	for j := range len(rules) + 1 {
		for n := range len(letters) + 1 {
			c, q := dear(rules[:j]...), letters[:n]
			for _, k := range []int{0, 1, 5, n, 20, 21} {
				want := [][]uint64{}
				if slowCosts(c) && n <= longest && k <= longest {
					want = bySettling(c, q, other[:k])
				}
				for range 2 {
					checkTable(t, c, q, other[:k], want...)
				}
			}
			if !alikeRules(rules, keptRules) || !slices.Equal(signs, keptSigns) || !slices.Equal(letters, keptLetters) || !slices.Equal(other, keptOther) {
				t.Fatalf("costs by %v of %v change what they are handed", c, q)
			}
		}
	}
	if &rules[1].Right[0] != &signs[6] {
		t.Error("the lists are others")
	}
}

// fill puts one in each place of a list, its spare room's too, and one behind it.
func fill[T any](l *[]T, x T) {
	for i := range (*l)[:cap(*l)] {
		(*l)[:cap(*l)][i] = x
	}
	*l = append((*l)[:len(*l):len(*l)], x)
}

// spoil puts others in all places of a table, those of its spare room too.
func spoil(t [][]uint64) {
	for i := range t {
		fill(&t[i], 7)
	}
	fill(&t, []uint64{7})
}

// spoilRules puts others in all places of rules.
func spoilRules(l []api.Rule) {
	for i, r := range l {
		fill(&r.Left, -7)
		fill(&r.Right, -7)
		l[i] = api.Rule{Left: []int{-7}}
	}
}

func TestNothingIsKept(t *testing.T) {
	for _, c := range goodCosts() {
		for _, q := range goodWords() {
			for _, w := range [][]int{nil, word("ab"), q} {
				ownCosts, ownAsked, ownWord := deepCosts(c), slices.Clone(q), slices.Clone(w)
				table := Table(ownCosts, ownAsked, ownWord)
				want := deepTable(table)
				// Nor are costs and words changed by what is done to a table, nor are tables by one another.
				spoil(Table(ownCosts, ownAsked, ownWord))
				if !alikeCosts(ownCosts, c) || !slices.Equal(ownAsked, q) || !slices.Equal(ownWord, w) {
					t.Fatalf("%s, %s and %s change with their table", brief(c), brief(q), brief(w))
				}
				if !alikeTables(table, want) || !alikeTables(Table(ownCosts, ownAsked, ownWord), want) {
					t.Fatalf("the table of %s, %s and %s changes with others", brief(c), brief(q), brief(w))
				}
				spoilRules(ownCosts.Rules)
				fill(&ownAsked, -7)
				fill(&ownWord, -7)
				if !alikeTables(table, want) {
					t.Fatalf("the table of %s, %s and %s changes with them", brief(c), brief(q), brief(w))
				}
			}
		}
	}
}

// Each row is filled by itself, to its spare room's end, and all others are to stay as they are.
func TestRowsShareNoMemory(t *testing.T) {
	for _, c := range goodCosts()[:12] {
		for _, q := range goodWords() {
			for _, w := range [][]int{nil, word("a"), q} {
				got := Table(c, q, w)
				want := deepTable(got)
				for i := range got {
					fill(&got[i], uint64(i+7))
					fill(&want[i], uint64(i+7))
					if !alikeTables(got, want) {
						t.Fatalf("rows of the table of %s, %s and %s share memory", brief(c), brief(q), brief(w))
					}
				}
			}
		}
	}
}

// R4: what is in spare room, and how much there is, does not matter.
func TestTheSameEachTime(t *testing.T) {
	spare := func(l []int, more ...int) []int {
		return append(append(make([]int, 0, len(l)+9), l...), more...)[:len(l)]
	}
	for _, c := range goodCosts() {
		roomy := c
		roomy.Rules = append(append(make([]api.Rule, 0, len(c.Rules)+3), deepRules(c.Rules)...), api.Rule{Right: []int{97}, Cost: 1})[:len(c.Rules)]
		for i, r := range roomy.Rules {
			roomy.Rules[i].Left, roomy.Rules[i].Right = spare(r.Left, 97), spare(r.Right, 97)
		}
		for _, q := range goodWords() {
			w := word("abab")
			want := Table(c, q, w)
			for range 2 {
				checkTable(t, roomy, spare(q, 97, 98, 97), spare(w, 97, 98, 97), want...)
			}
		}
	}
}
