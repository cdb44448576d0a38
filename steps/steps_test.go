package steps

import (
	"cmp"
	"fmt"
	"math"
	"slices"
	"testing"

	"spellwright/api"
)

const (
	longest = 20
	inf     = 18446744073709551615
)

// word is a text's signs.
func word(s string) []int {
	l := []int{}
	for _, r := range s {
		l = append(l, int(r))
	}
	return l
}

func costs(more, less, other, turned uint64, l ...api.Rule) api.Costs {
	return api.Costs{More: more, Less: less, Other: other, Turned: turned, Rules: l}
}

// apart are costs of which no two are alike, and rules.
func apart(l ...api.Rule) api.Costs {
	return costs(10, 20, 30, 40, l...)
}

func from(left, right string, cost uint64) api.Rule {
	return api.Rule{Left: word(left), Right: word(right), Cost: cost}
}

// puts is a step that takes so many, and puts these.
func puts(eat int, put string, cost uint64) api.Step {
	return api.Step{Eat: eat, Put: word(put), Cost: cost}
}

// putsAny is a step that takes so many, and puts any one.
func putsAny(eat int, cost uint64) api.Step {
	return api.Step{Eat: eat, Any: true, Cost: cost}
}

func deepSteps(l []api.Step) []api.Step {
	out := []api.Step{}
	for _, s := range l {
		out = append(out, api.Step{Eat: s.Eat, Put: slices.Clone(s.Put), Any: s.Any, Cost: s.Cost})
	}
	return out
}

func deepAll(l [][]api.Step) [][]api.Step {
	out := [][]api.Step{}
	for _, s := range l {
		out = append(out, deepSteps(s))
	}
	return out
}

func deepRules(l []api.Rule) []api.Rule {
	out := []api.Rule{}
	for _, r := range l {
		out = append(out, api.Rule{Left: slices.Clone(r.Left), Right: slices.Clone(r.Right), Cost: r.Cost})
	}
	return out
}

func deepCosts(c api.Costs) api.Costs {
	c.Rules = deepRules(c.Rules)
	return c
}

func alikeSteps(a, b []api.Step) bool {
	return slices.EqualFunc(a, b, func(x, y api.Step) bool {
		return x.Eat == y.Eat && slices.Equal(x.Put, y.Put) && x.Any == y.Any && x.Cost == y.Cost
	})
}

func alikeAll(a, b [][]api.Step) bool {
	return slices.EqualFunc(a, b, alikeSteps)
}

func alikeSides(a, b api.Rule) bool {
	return slices.Equal(a.Left, b.Left) && slices.Equal(a.Right, b.Right)
}

func alikeRules(a, b []api.Rule) bool {
	return slices.EqualFunc(a, b, func(x, y api.Rule) bool { return alikeSides(x, y) && x.Cost == y.Cost })
}

func alikeCosts(a, b api.Costs) bool {
	return a.More == b.More && a.Less == b.Less && a.Other == b.Other && a.Turned == b.Turned && alikeRules(a.Rules, b.Rules)
}

// brief is what is told of a fault's costs, or words, which may be very long.
func brief(x any) string {
	s := fmt.Sprint(x)
	if len(s) > 300 {
		return s[:300] + " .."
	}
	return s
}

// lists are the lists of at most so many of these, the shorter ones first.
func lists[T any](of []T, long int) [][]T {
	out := [][]T{{}}
	begin := 0
	for range long {
		end := len(out)
		for _, l := range out[begin:end] {
			for _, x := range of {
				out = append(out, append(slices.Clone(l), x))
			}
		}
		begin = end
	}
	return out
}

// dice are numbers that look like any, the same each time.
type dice uint64

func (d *dice) next() uint64 {
	*d = *d*6364136223846793005 + 1442695040888963407
	n := uint64(*d)
	return (n ^ n>>29) * 0xbf58476d1ce4e5b9
}

func (d *dice) below(n int) int {
	return int(d.next() >> 20 % uint64(n))
}

// some is a list of at most so many of these.
func (d *dice) some(of []int, long int) []int {
	l := []int{}
	for range d.below(long + 1) {
		l = append(l, of[d.below(len(of))])
	}
	return l
}

// rules are at most so many in order, of sides of these signs, not all of which take what is asked.
func (d *dice) rules(of []int, many int) []api.Rule {
	out := []api.Rule{}
	for range d.below(many + 1) {
		r := api.Rule{Left: d.some(of, 4), Right: d.some(of, 3), Cost: d.next() % 100}
		if !slices.Equal(r.Left, r.Right) {
			out = append(out, r)
		}
	}
	slices.SortStableFunc(out, compareSides)
	return slices.CompactFunc(out, alikeSides)
}

// distinctRules are so many rules in order, of unlike sides.
func distinctRules(n int) []api.Rule {
	out := []api.Rule{}
	for i := range n {
		out = append(out, api.Rule{Left: []int{300 + i/7}, Right: []int{200 + i%7, 97}, Cost: uint64(5000 - i)})
	}
	return out
}

// goodSign says what the chapters say of a sign.
func goodSign(n int) bool {
	return n >= 0 && n < 55296 || n > 57343 && n <= 1114111
}

// slowFits says what the chapters say of a rule that fits.
func slowFits(r api.Rule) bool {
	for _, l := range [][]int{r.Left, r.Right} {
		if len(l) > 8 || slices.Equal(l, []int{95}) {
			return false
		}
		for _, n := range l {
			if !goodSign(n) || n == 9 || n == 10 || n == 32 {
				return false
			}
		}
	}
	return !slices.Equal(r.Left, r.Right) && r.Cost < inf
}

// compareSides is less than 0 if a's sides stand ahead of b's.
func compareSides(a, b api.Rule) int {
	return cmp.Or(slices.Compare(a.Left, b.Left), slices.Compare(a.Right, b.Right))
}

// slowCosts says what the chapter of rule files says of costs that may be.
func slowCosts(c api.Costs) bool {
	for _, n := range []uint64{c.More, c.Less, c.Other, c.Turned} {
		if n == inf {
			return false
		}
	}
	for i, r := range c.Rules {
		if !slowFits(r) || i > 0 && compareSides(c.Rules[i-1], r) >= 0 {
			return false
		}
	}
	return len(c.Rules) <= 200
}

// slowStands says whether a list is what stands in q from a place on, number by number.
func slowStands(l, q []int, i int) bool {
	for k, n := range l {
		if i+k >= len(q) || q[i+k] != n {
			return false
		}
	}
	return true
}

// slowAt says what the chapter says of a place's steps.
func slowAt(c api.Costs, q []int, i int) []api.Step {
	out := []api.Step{}
	if !slowCosts(c) || len(q) > longest || i < 0 || i > len(q) {
		return out
	}
	if i < len(q) {
		out = append(out, api.Step{Eat: 1, Put: []int{q[i]}, Any: false, Cost: 0})
		out = append(out, api.Step{Eat: 1, Put: nil, Any: true, Cost: c.Other})
		out = append(out, api.Step{Eat: 1, Put: nil, Any: false, Cost: c.Less})
	}
	if i+1 < len(q) && q[i] != q[i+1] {
		out = append(out, api.Step{Eat: 2, Put: []int{q[i+1], q[i]}, Any: false, Cost: c.Turned})
	}
	out = append(out, api.Step{Eat: 0, Put: nil, Any: true, Cost: c.More})
	for _, r := range c.Rules {
		if slowStands(r.Left, q, i) {
			out = append(out, api.Step{Eat: len(r.Left), Put: slices.Clone(r.Right), Any: false, Cost: r.Cost})
		}
	}
	return out
}

// checkAt holds the steps of a place against these.
func checkAt(t *testing.T, c api.Costs, q []int, i int, want ...api.Step) {
	t.Helper()
	if got := At(c, q, i); !alikeSteps(got, want) {
		t.Fatalf("At(%s, %s, %d) is %s, want %s", brief(c), brief(q), i, brief(got), brief(want))
	}
}

// checkPlaces holds all places of what was asked, and those beside them, against what the chapter says.
func checkPlaces(t *testing.T, c api.Costs, q []int) {
	t.Helper()
	want := [][]api.Step{}
	for i := -2; i <= len(q)+2; i++ {
		steps := slowAt(c, q, i)
		checkAt(t, c, q, i, steps...)
		if len(steps) > 0 {
			want = append(want, steps)
		}
	}
	checkAll(t, c, q, want...)
}

func checkAll(t *testing.T, c api.Costs, q []int, want ...[]api.Step) {
	t.Helper()
	if got := All(c, q); !alikeAll(got, want) {
		t.Fatalf("All(%s, %s) is %s, want %s", brief(c), brief(q), brief(got), brief(want))
	}
}

// checkNone holds places far and near against there being no steps.
func checkNone(t *testing.T, c api.Costs, q []int) {
	t.Helper()
	for _, i := range []int{0, 1, 2, len(q) - 1, len(q), len(q) + 1, -1, longest, longest + 1, math.MinInt, math.MaxInt} {
		checkAt(t, c, q, i)
	}
	checkAll(t, c, q)
}

// goodCosts are costs that may be.
func goodCosts() []api.Costs {
	eight := []api.Rule{}
	for i := range 200 {
		eight = append(eight, api.Rule{Left: slices.Repeat([]int{1000 + i}, 8), Right: slices.Repeat([]int{api.MaxRune}, 8), Cost: inf - 1})
	}
	everywhere := []api.Rule{}
	for i := range 200 {
		everywhere = append(everywhere, api.Rule{Right: []int{97 + i}, Cost: uint64(i)})
	}
	return []api.Costs{
		{}, apart(), costs(1, 1, 1, 1), costs(1, 2, 3, 4), costs(inf-1, inf-1, inf-1, inf-1), {Rules: []api.Rule{}},
		apart(from("f", "ph", 2)), costs(0, 0, 0, 0, from("", "s", 0)), costs(9, 8, 7, 6, from("s", "", inf-1)), apart(api.Rule{Right: []int{0}}, api.Rule{Left: []int{0}}),
		apart(from("", "a", 0), from("", "aa", 1), from("a", "", 127), from("a", "b", 128), from("aa", "", 3), from("b", "a", 3)),
		apart(distinctRules(3)...), costs(5, 6, 7, 8, distinctRules(199)...), costs(5, 6, 7, 8, distinctRules(200)...), costs(5, 6, 7, 8, eight...), apart(everywhere...),
	}
}

// badCosts are costs that may not be.
func badCosts() []api.Costs {
	out := []api.Costs{costs(inf, 1, 1, 1), costs(1, inf, 1, 1), costs(1, 1, inf, 1), costs(1, 1, 1, inf), costs(1, inf, 1, 1, from("a", "b", 1)), costs(inf, inf, inf, inf, distinctRules(201)...)}
	for _, l := range [][]api.Rule{
		{from("b", "a", 1), from("a", "b", 1)}, {from("a", "c", 1), from("a", "b", 1)}, {from("a", "b", 1), from("a", "", 1)}, {from("aa", "b", 1), from("a", "c", 1)},
		{from("a", "b", 1), from("a", "b", 1)}, {from("a", "b", 1), from("a", "b", 2)}, {from("a", "b", 2), from("a", "b", 1)}, {from("", "b", 1), from("a", "b", 2), from("a", "b", 2)},
		{{}}, {from("a", "a", 1)}, {from("ab", "ab", 0)}, {from("a", "b", inf)}, {from("a", "b c", 1)}, {from("a\t", "b", 1)}, {from("a", "\n", 1)}, {from("_", "b", 1)}, {from("a", "_", 1)},
		{from("abcdefghi", "b", 1)}, {from("a", "abcdefghi", 1)}, {{Left: []int{-1}}}, {{Right: []int{55296}}}, {{Left: []int{57343}, Right: []int{97}}}, {{Right: []int{1114112}}}, {{Right: []int{1<<32 + 97}}},
		{{Left: []int{math.MaxInt}}}, {{Left: []int{math.MinInt}}}, {{Left: make([]int, 100000)}}, {from("a", "b", 1), from("a", "c", inf)}, distinctRules(201), append(distinctRules(5), distinctRules(4)...), make([]api.Rule, 100000),
	} {
		out = append(out, apart(l...))
	}
	return out
}

// goodWords are what may be asked: no number of it need be a sign.
func goodWords() [][]int {
	out := [][]int{
		nil, {}, word("a"), word("ab"), word("aa"), word("abc"), word("aab"), word("abb"), word("ff"), word("aaaaaaaaaaaaaaaaaaaa"), word("abcdefghijklmnopqrst"), word("ababababababababababa")[:20], word("sss"), word(" \t\n#_"),
		{0}, {0, 0, 1}, {-1}, {-1, -1, -2}, {55296, 57343}, {1114111, 1114112}, {math.MaxInt, math.MinInt}, {math.MinInt}, {1<<32 + 97, 97}, {300, 301, 300}, make([]int, 20), slices.Repeat([]int{1005}, 20),
	}
	for n := range longest + 1 {
		out = append(out, slices.Repeat([]int{97, 97, 98}, 7)[:n])
	}
	return out
}

// badWords are too long to be asked.
func badWords() [][]int {
	return [][]int{make([]int, 21), word("abcdefghijklmnopqrstu"), make([]int, 22), make([]int, 40), slices.Repeat([]int{-1}, 21), make([]int, 100000), make([]int, 1<<20)}
}

// P17.1

func TestAtOfTheExample(t *testing.T) {
	checkAt(t, apart(), word("a"), 1, putsAny(0, 10))
	checkAt(t, costs(1, 1, 1, 1), word("a"), 1, putsAny(0, 1))
	checkAt(t, api.Costs{}, word("a"), 1, putsAny(0, 0))
}

func TestAtOfNothing(t *testing.T) {
	checkAt(t, apart(), nil, 0, putsAny(0, 10))
	checkAt(t, apart(), []int{}, 0, putsAny(0, 10))
	checkAt(t, apart(), word("abc")[:0], 0, putsAny(0, 10))
	checkAt(t, apart(from("", "s", 0), from("s", "", 1)), nil, 0, putsAny(0, 10), puts(0, "s", 0))
	checkAt(t, apart(), nil, 1)
	checkAt(t, apart(), nil, -1)
}

func TestAtOfOneNumber(t *testing.T) {
	checkAt(t, apart(), word("a"), 0, puts(1, "a", 0), putsAny(1, 30), puts(1, "", 20), putsAny(0, 10))
	checkAt(t, apart(), word("ab"), 1, puts(1, "b", 0), putsAny(1, 30), puts(1, "", 20), putsAny(0, 10))
	checkAt(t, apart(), word("aa"), 1, puts(1, "a", 0), putsAny(1, 30), puts(1, "", 20), putsAny(0, 10))
	checkAt(t, apart(), word("abcd"), 3, puts(1, "d", 0), putsAny(1, 30), puts(1, "", 20), putsAny(0, 10))
}

func TestAtOfTwoNumbers(t *testing.T) {
	checkAt(t, apart(), word("ab"), 0, puts(1, "a", 0), putsAny(1, 30), puts(1, "", 20), puts(2, "ba", 40), putsAny(0, 10))
	checkAt(t, apart(), word("ba"), 0, puts(1, "b", 0), putsAny(1, 30), puts(1, "", 20), puts(2, "ab", 40), putsAny(0, 10))
	checkAt(t, apart(), word("aa"), 0, puts(1, "a", 0), putsAny(1, 30), puts(1, "", 20), putsAny(0, 10))
	checkAt(t, apart(), word("aab"), 0, puts(1, "a", 0), putsAny(1, 30), puts(1, "", 20), putsAny(0, 10))
	checkAt(t, apart(), word("aab"), 1, puts(1, "a", 0), putsAny(1, 30), puts(1, "", 20), puts(2, "ba", 40), putsAny(0, 10))
	checkAt(t, apart(), word("aba"), 1, puts(1, "b", 0), putsAny(1, 30), puts(1, "", 20), puts(2, "ab", 40), putsAny(0, 10))
	checkAt(t, apart(), word("abb"), 1, puts(1, "b", 0), putsAny(1, 30), puts(1, "", 20), putsAny(0, 10))
}

// Numbers that are no signs are taken, and put, as they are.
func TestAtOfNumbersThatAreNoSigns(t *testing.T) {
	some := []int{-1, 0, 9, 10, 32, 35, 95, 55295, 55296, 57343, 57344, 1114111, 1114112, math.MaxInt32, 1 << 32, math.MinInt, math.MaxInt}
	for _, a := range some {
		checkAt(t, apart(), []int{a}, 0, api.Step{Eat: 1, Put: []int{a}}, putsAny(1, 30), puts(1, "", 20), putsAny(0, 10))
		checkAt(t, apart(), []int{a, a}, 0, api.Step{Eat: 1, Put: []int{a}}, putsAny(1, 30), puts(1, "", 20), putsAny(0, 10))
		for _, b := range some {
			if a != b {
				checkAt(t, apart(), []int{a, b}, 0, api.Step{Eat: 1, Put: []int{a}}, putsAny(1, 30), puts(1, "", 20), api.Step{Eat: 2, Put: []int{b, a}, Cost: 40}, putsAny(0, 10))
			}
		}
	}
}

// Only the lowest bits, or the sign, of two numbers are alike.
func TestAtOfNumbersThatAreNearlyAlike(t *testing.T) {
	for bit := range 63 {
		checkPlaces(t, apart(from("a", "b", 1)), []int{97, 97 ^ 1<<bit, 97})
		checkPlaces(t, apart(from("aa", "b", 1)), []int{97, 97 ^ 1<<bit, 97})
	}
	checkPlaces(t, apart(from("a", "b", 1)), []int{97, 97 + math.MinInt, 97, -97, 97})
}

func TestAtOfRules(t *testing.T) {
	base := []api.Step{puts(1, "a", 0), putsAny(1, 30), puts(1, "", 20), puts(2, "ba", 40), putsAny(0, 10)}
	with := func(l ...api.Step) []api.Step { return append(slices.Clone(base), l...) }
	for _, x := range []struct {
		rules []api.Rule
		steps []api.Step
	}{
		{nil, nil},
		{[]api.Rule{from("a", "x", 5)}, []api.Step{puts(1, "x", 5)}},
		{[]api.Rule{from("", "x", 5)}, []api.Step{puts(0, "x", 5)}},
		{[]api.Rule{from("a", "", 5)}, []api.Step{puts(1, "", 5)}},
		{[]api.Rule{from("ab", "", 5)}, []api.Step{puts(2, "", 5)}},
		{[]api.Rule{from("", "abcdefgh", 0)}, []api.Step{puts(0, "abcdefgh", 0)}},
		// All that stands there is taken, or one more would be.
		{[]api.Rule{from("ab", "x", 5)}, []api.Step{puts(2, "x", 5)}},
		{[]api.Rule{from("abc", "x", 5)}, []api.Step{puts(3, "x", 5)}},
		{[]api.Rule{from("abcd", "x", 5)}, nil},
		{[]api.Rule{from("abca", "x", 5)}, nil},
		{[]api.Rule{from("abcdefgh", "x", 5)}, nil},
		// They stand elsewhere, or nowhere.
		{[]api.Rule{from("b", "x", 5)}, nil},
		{[]api.Rule{from("bc", "x", 5)}, nil},
		{[]api.Rule{from("c", "x", 5)}, nil},
		{[]api.Rule{from("ba", "x", 5)}, nil},
		{[]api.Rule{from("d", "x", 5)}, nil},
		{[]api.Rule{from("ac", "x", 5)}, nil},
		{[]api.Rule{from("aa", "x", 5)}, nil},
		{[]api.Rule{from("abd", "x", 5)}, nil},
		// Some begin alike.
		{[]api.Rule{from("a", "x", 5), from("ab", "x", 4), from("abc", "x", 3), from("abcd", "x", 2)}, []api.Step{puts(1, "x", 5), puts(2, "x", 4), puts(3, "x", 3)}},
		{[]api.Rule{from("", "y", 9), from("a", "", 8), from("a", "x", 5), from("a", "xy", 0), from("aa", "x", 1), from("ab", "c", 7), from("b", "c", 1)}, []api.Step{puts(0, "y", 9), puts(1, "", 8), puts(1, "x", 5), puts(1, "xy", 0), puts(2, "c", 7)}},
		// What the base steps do may be done by rules, too: at another cost, or at the same.
		{[]api.Rule{from("a", "", 20), from("ab", "ba", 40)}, []api.Step{puts(1, "", 20), puts(2, "ba", 40)}},
		{[]api.Rule{from("a", "", 0), from("ab", "ba", 0)}, []api.Step{puts(1, "", 0), puts(2, "ba", 0)}},
		{[]api.Rule{from("a", "x", inf-1)}, []api.Step{puts(1, "x", inf-1)}},
	} {
		checkAt(t, apart(x.rules...), word("abc"), 0, with(x.steps...)...)
	}
}

// The last places, where what is behind q is not to be taken.
func TestAtOfRulesAtTheEnd(t *testing.T) {
	l := []api.Rule{from("", "x", 1), from("b", "x", 2), from("bc", "x", 3), from("bcb", "x", 4), from("c", "x", 5), from("cb", "x", 6), from("cc", "x", 7)}
	q := word("abcbc")[:3]
	checkAt(t, apart(l...), q, 1, puts(1, "b", 0), putsAny(1, 30), puts(1, "", 20), puts(2, "cb", 40), putsAny(0, 10), puts(0, "x", 1), puts(1, "x", 2), puts(2, "x", 3))
	checkAt(t, apart(l...), q, 2, puts(1, "c", 0), putsAny(1, 30), puts(1, "", 20), putsAny(0, 10), puts(0, "x", 1), puts(1, "x", 5))
	checkAt(t, apart(l...), q, 3, putsAny(0, 10), puts(0, "x", 1))
	checkAt(t, apart(l...), q, 4)
}

func TestAtOfBaseSteps(t *testing.T) {
	for _, n := range []uint64{0, 1, 1 << 32, 1 << 63, inf - 1} {
		checkAt(t, costs(n, 1, 2, 3), word("ab"), 0, puts(1, "a", 0), putsAny(1, 2), puts(1, "", 1), puts(2, "ba", 3), putsAny(0, n))
		checkAt(t, costs(1, n, 2, 3), word("ab"), 0, puts(1, "a", 0), putsAny(1, 2), puts(1, "", n), puts(2, "ba", 3), putsAny(0, 1))
		checkAt(t, costs(1, 2, n, 3), word("ab"), 0, puts(1, "a", 0), putsAny(1, n), puts(1, "", 2), puts(2, "ba", 3), putsAny(0, 1))
		checkAt(t, costs(1, 2, 3, n), word("ab"), 0, puts(1, "a", 0), putsAny(1, 3), puts(1, "", 2), puts(2, "ba", n), putsAny(0, 1))
		checkAt(t, costs(n, n, n, n), word("ab"), 0, puts(1, "a", 0), putsAny(1, n), puts(1, "", n), puts(2, "ba", n), putsAny(0, n))
	}
}

// Places that are none, as far as a number goes.
func TestAtOfNoPlace(t *testing.T) {
	for _, q := range [][]int{nil, word("a"), word("ab"), word("abc"), word("abcdefghijklmnopqrst")} {
		for _, c := range goodCosts() {
			for k := range 64 {
				for _, i := range []int{len(q) + 1<<k, -1 << k, len(q) + math.MinInt, len(q) - 1<<k, math.MinInt + k, math.MaxInt - k} {
					if i < 0 || i > len(q) {
						checkAt(t, c, q, i)
					}
				}
			}
		}
	}
}

func TestAtOfLongWords(t *testing.T) {
	for n := range 45 {
		q := slices.Repeat(word("abb"), 15)[:n]
		for i := -1; i <= n+1; i++ {
			got := At(apart(from("bb", "b", 3)), q, i)
			if is := n <= longest && i >= 0 && i <= n; is != (len(got) > 0) {
				t.Fatalf("At of %d numbers, place %d, is %v", n, i, got)
			}
		}
	}
	for _, q := range badWords() {
		for _, c := range goodCosts() {
			checkNone(t, c, q)
		}
	}
}

func TestAtOfCostsThatMayNotBe(t *testing.T) {
	for _, c := range badCosts() {
		for _, q := range goodWords() {
			checkNone(t, c, q)
		}
		checkNone(t, c, make([]int, 21))
	}
}

func TestAtOfCostsThatMayBe(t *testing.T) {
	for _, c := range goodCosts() {
		for _, q := range goodWords() {
			checkPlaces(t, c, q)
		}
	}
}

// All short words of two numbers, with all rules of few chosen sides.
func TestAtOfAllShortWords(t *testing.T) {
	words := lists([]int{97, 98}, 4)
	sides := lists([]int{97, 98}, 2)
	for _, left := range lists([]int{97, 98}, 3) {
		for _, right := range sides {
			if slices.Equal(left, right) {
				continue
			}
			c := apart(api.Rule{Left: left, Right: right, Cost: 7})
			for _, q := range words {
				checkPlaces(t, c, q)
			}
		}
	}
	l := []api.Rule{}
	for _, left := range sides {
		for _, right := range sides {
			if !slices.Equal(left, right) {
				l = append(l, api.Rule{Left: left, Right: right, Cost: uint64(len(l))})
			}
		}
	}
	slices.SortFunc(l, compareSides)
	for _, q := range lists([]int{97, 98, 99}, 4) {
		checkPlaces(t, apart(l...), q)
	}
}

func TestAtOfManyRules(t *testing.T) {
	var d dice = 17
	for range 3000 {
		signs := []int{97, 98, 99, 8364}[:1+d.below(4)]
		c := costs(d.next()%50, d.next()%50, d.next()%50, d.next()%50, d.rules(signs, 30)...)
		checkPlaces(t, c, d.some(append(signs, -1), 21))
	}
}

// Rules of as many signs as a side may have.
func TestAtOfLongRules(t *testing.T) {
	q := word("abcdefghabcdefghabcd")
	for i := range len(q) + 1 {
		for n := 1; n <= api.MaxSide; n++ {
			if i+n > len(q) {
				break
			}
			left := slices.Clone(q[i : i+n])
			checkPlaces(t, apart(api.Rule{Left: left, Right: []int{98, 97}, Cost: 3}), q)
			// One number of it is another one.
			for k := range left {
				wrong := slices.Clone(left)
				wrong[k]++
				checkPlaces(t, apart(api.Rule{Left: wrong, Right: []int{98, 97}, Cost: 3}), q)
			}
			checkPlaces(t, apart(api.Rule{Left: left, Right: []int{98, 97}, Cost: 3}), q[:i+n-1])
		}
	}
}

// P17.2

func TestAllOfShortWords(t *testing.T) {
	c := apart(from("b", "p", 5))
	end := []api.Step{putsAny(0, 10)}
	checkAll(t, c, nil, end)
	checkAll(t, c, []int{}, end)
	checkAll(t, c, word("a"), []api.Step{puts(1, "a", 0), putsAny(1, 30), puts(1, "", 20), putsAny(0, 10)}, end)
	checkAll(t, c, word("ab"),
		[]api.Step{puts(1, "a", 0), putsAny(1, 30), puts(1, "", 20), puts(2, "ba", 40), putsAny(0, 10)},
		[]api.Step{puts(1, "b", 0), putsAny(1, 30), puts(1, "", 20), putsAny(0, 10), puts(1, "p", 5)}, end)
}

// It has one list more than there are numbers, each what At tells.
func TestAllIsAtOfEachPlace(t *testing.T) {
	for _, c := range append(goodCosts(), badCosts()...) {
		for _, q := range append(goodWords(), badWords()...) {
			got := All(c, q)
			if may := slowCosts(c) && len(q) <= longest; !may {
				if len(got) != 0 {
					t.Fatalf("All(%s, %s) is %s, want none", brief(c), brief(q), brief(got))
				}
				continue
			}
			if len(got) != len(q)+1 {
				t.Fatalf("All(%s, %s) has %d places", brief(c), brief(q), len(got))
			}
			for i, l := range got {
				if !alikeSteps(l, At(c, q, i)) {
					t.Fatalf("All(%s, %s) is %s at %d, At is %s", brief(c), brief(q), brief(l), i, brief(At(c, q, i)))
				}
			}
		}
	}
}

func TestAllOfTheLongestWord(t *testing.T) {
	q := word("abcdefghijklmnopqrstu")
	if got := All(apart(), q[:20]); len(got) != 21 || !alikeSteps(got[20], []api.Step{putsAny(0, 10)}) {
		t.Fatalf("All of 20 numbers is %v", got)
	}
	checkAll(t, apart(), q)
	checkAll(t, costs(1, 1, 1, inf), q[:20])
	checkAll(t, costs(1, 1, 1, inf), nil)
}

// P17.3

func checkWhole(t *testing.T, s api.Step, q []int, i int) {
	t.Helper()
	if s.Eat < 0 || i+s.Eat > len(q) {
		t.Fatalf("at %d of %s %v takes what is not there", i, brief(q), s)
	}
	if s.Eat == 0 && len(s.Put) == 0 && !s.Any {
		t.Fatalf("at %d of %s %v does nothing", i, brief(q), s)
	}
	if s.Any && len(s.Put) > 0 || len(s.Put) > api.MaxSide || s.Eat > api.MaxSide || s.Cost == inf {
		t.Fatalf("at %d of %s %v is none", i, brief(q), s)
	}
}

func TestStepsAreWhole(t *testing.T) {
	for _, c := range goodCosts() {
		for _, q := range goodWords() {
			for i, l := range All(c, q) {
				for _, s := range l {
					checkWhole(t, s, q, i)
				}
			}
		}
	}
	var d dice = 5
	for range 3000 {
		c := costs(d.next()%9, d.next()%9, d.next()%9, d.next()%9, d.rules([]int{97, 98}, 40)...)
		q := d.some([]int{97, 98}, 20)
		for i := range len(q) + 1 {
			for _, s := range At(c, q, i) {
				checkWhole(t, s, q, i)
			}
		}
	}
}

// All steps together come to what was asked: those that put what they take, from 0 on, put it again.
func TestSameStepsPutWhatWasAsked(t *testing.T) {
	for _, q := range goodWords() {
		put := []int{}
		for _, l := range All(apart(from("a", "b", 1)), q)[:len(q)] {
			put = append(put, l[0].Put...)
			if l[0].Eat != 1 || l[0].Cost != 0 || l[0].Any {
				t.Fatalf("the first step of %v is %v", q, l[0])
			}
		}
		if !slices.Equal(put, q) {
			t.Fatalf("the first steps put %v, of %v", put, q)
		}
	}
}

// R3

// What is handed in are parts of longer lists, whose rest is to stay as it is.
func TestNothingHandedInIsChanged(t *testing.T) {
	signs := word("abcabcxyz")
	rules := []api.Rule{{Left: signs[0:1], Right: signs[1:2], Cost: 1}, {Left: signs[0:2], Right: signs[6:8], Cost: 2}, {Left: signs[1:3], Right: signs[4:4], Cost: 3}, {Left: signs[5:6], Right: signs[0:8], Cost: 4}, from("a", "a", 9), {}}
	letters := word("abcbaabcabcabcabcabcabcabc")
	keptRules, keptSigns, keptLetters := deepRules(rules), slices.Clone(signs), slices.Clone(letters)
	for j := range len(rules) + 1 {
		for n := range len(letters) + 1 {
			c, q := apart(rules[:j]...), letters[:n]
			for range 2 {
				checkPlaces(t, c, q)
			}
			if !alikeRules(rules, keptRules) || !slices.Equal(signs, keptSigns) || !slices.Equal(letters, keptLetters) {
				t.Fatalf("steps of %v and %v change what they are handed", c, q)
			}
		}
	}
	if &rules[1].Right[0] != &signs[6] {
		t.Error("the lists are others")
	}
}

// fill puts one in each place of a list, its spare room's too, and one behind it.
func fill[T any](l *[]T, x T) {
	for i := range (*l)[:cap(*l)] {
		(*l)[:cap(*l)][i] = x
	}
	*l = append((*l)[:len(*l):len(*l)], x)
}

// spoil puts others in all places of steps, those of their spare room too.
func spoil(l []api.Step) {
	for i := range l {
		fill(&l[i].Put, -7)
	}
	fill(&l, api.Step{Eat: -7, Put: []int{-7}, Any: true, Cost: 7})
}

// spoilRules puts others in all places of rules.
func spoilRules(l []api.Rule) {
	for i, r := range l {
		fill(&r.Left, -7)
		fill(&r.Right, -7)
		l[i] = api.Rule{Left: []int{-7}}
	}
}

func TestNothingIsKept(t *testing.T) {
	for _, c := range goodCosts() {
		for _, q := range goodWords() {
			ownCosts, ownWord := deepCosts(c), slices.Clone(q)
			all := All(ownCosts, ownWord)
			want := deepAll(all)
			at := At(ownCosts, ownWord, len(q)/2)
			spoilRules(ownCosts.Rules)
			fill(&ownWord, -7)
			if !alikeAll(all, want) || !alikeSteps(at, want[len(q)/2]) {
				t.Fatalf("steps of %s and %s change with them", brief(c), brief(q))
			}
			// Nor do these with steps, nor do steps with one another.
			ownCosts, ownWord = deepCosts(c), slices.Clone(q)
			again := All(ownCosts, ownWord)
			for _, l := range All(ownCosts, ownWord) {
				spoil(l)
			}
			spoil(At(ownCosts, ownWord, len(q)/2))
			if !alikeCosts(ownCosts, c) || !slices.Equal(ownWord, q) {
				t.Fatalf("%s and %s change with their steps", brief(c), brief(q))
			}
			if !alikeAll(again, want) || !alikeAll(All(ownCosts, ownWord), want) {
				t.Fatalf("steps of %s and %s change with others", brief(c), brief(q))
			}
		}
	}
}

// Each list of an answer is filled by itself, to its spare room's end, and all others are to stay as they are.
func TestWhatIsAnsweredSharesNoMemory(t *testing.T) {
	for _, c := range goodCosts() {
		if len(c.Rules) > 20 {
			c.Rules = c.Rules[:20]
		}
		for _, q := range goodWords() {
			got := All(c, q)
			want := deepAll(got)
			for i := range got {
				for j := range got[i] {
					fill(&got[i][j].Put, -7)
					fill(&want[i][j].Put, -7)
					if !alikeAll(got, want) {
						t.Fatalf("what steps of %s and %s put shares memory", brief(c), brief(q))
					}
				}
				fill(&got[i], api.Step{Eat: -7})
				fill(&want[i], api.Step{Eat: -7})
				if !alikeAll(got, want) {
					t.Fatalf("steps of %s and %s share memory", brief(c), brief(q))
				}
			}
			at := At(c, q, 0)
			keep := deepSteps(at)
			for j := range at {
				fill(&at[j].Put, -7)
				fill(&keep[j].Put, -7)
				if !alikeSteps(at, keep) {
					t.Fatalf("what steps at 0 of %s and %s put shares memory", brief(c), brief(q))
				}
			}
		}
	}
}

// R4: what is in spare room, and how much there is, does not matter.
func TestTheSameEachTime(t *testing.T) {
	for _, c := range goodCosts() {
		roomy := c
		roomy.Rules = append(append(make([]api.Rule, 0, len(c.Rules)+3), deepRules(c.Rules)...), api.Rule{Right: []int{97}, Cost: 1})[:len(c.Rules)]
		for i, r := range roomy.Rules {
			roomy.Rules[i].Left = append(append(make([]int, 0, len(r.Left)+3), r.Left...), 97)[:len(r.Left)]
			roomy.Rules[i].Right = append(append(make([]int, 0, len(r.Right)+3), r.Right...), 97)[:len(r.Right)]
		}
		for _, q := range goodWords() {
			spare := append(append(make([]int, 0, len(q)+9), q...), 97, 98, 97)[:len(q)]
			for range 2 {
				checkPlaces(t, roomy, spare)
			}
		}
	}
}
