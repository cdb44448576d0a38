package shape

import (
	"cmp"
	"fmt"
	"math"
	"math/big"
	"runtime"
	"slices"
	"testing"

	"spellwright/api"
	"spellwright/dawg"
	"spellwright/image"
	"spellwright/trie"
)

const (
	most    = 300
	longest = 20
)

// word is a text's signs.
func word(s string) []int {
	l := []int{}
	for _, r := range s {
		l = append(l, int(r))
	}
	return l
}

func wordsOf(texts ...string) [][]int {
	out := [][]int{}
	for _, s := range texts {
		out = append(out, word(s))
	}
	return out
}

// state is one that may be Final, with arcs of these signs and places, by turns.
func state(final bool, arcs ...int) api.State {
	s := api.State{Final: final}
	for i := 0; i < len(arcs); i += 2 {
		s.Arcs = append(s.Arcs, api.Arc{Sign: arcs[i], To: arcs[i+1]})
	}
	return s
}

func costs(more, less, other, turned uint64, l ...api.Rule) api.Costs {
	return api.Costs{More: more, Less: less, Other: other, Turned: turned, Rules: l}
}

// ones are costs 1, 1, 1, 1, and rules.
func ones(l ...api.Rule) api.Costs {
	return costs(1, 1, 1, 1, l...)
}

func from(left, right string, cost uint64) api.Rule {
	return api.Rule{Left: word(left), Right: word(right), Cost: cost}
}

// of are states with costs 1, 1, 1, 1.
func of(l ...api.State) api.Image {
	return api.Image{States: l, Costs: ones()}
}

func deepWords(l [][]int) [][]int {
	out := [][]int{}
	for _, w := range l {
		out = append(out, slices.Clone(w))
	}
	return out
}

func deepStates(l []api.State) []api.State {
	out := []api.State{}
	for _, s := range l {
		out = append(out, api.State{Final: s.Final, Arcs: slices.Clone(s.Arcs)})
	}
	return out
}

func deepRules(l []api.Rule) []api.Rule {
	out := []api.Rule{}
	for _, r := range l {
		out = append(out, api.Rule{Left: slices.Clone(r.Left), Right: slices.Clone(r.Right), Cost: r.Cost})
	}
	return out
}

func deepCosts(c api.Costs) api.Costs {
	c.Rules = deepRules(c.Rules)
	return c
}

func deep(x api.Image) api.Image {
	return api.Image{States: deepStates(x.States), Costs: deepCosts(x.Costs)}
}

func alikeWords(a, b [][]int) bool {
	return slices.EqualFunc(a, b, func(x, y []int) bool { return slices.Equal(x, y) })
}

func alikeStates(a, b []api.State) bool {
	return slices.EqualFunc(a, b, func(x, y api.State) bool { return x.Final == y.Final && slices.Equal(x.Arcs, y.Arcs) })
}

func alikeSides(a, b api.Rule) bool {
	return slices.Equal(a.Left, b.Left) && slices.Equal(a.Right, b.Right)
}

func alikeRules(a, b []api.Rule) bool {
	return slices.EqualFunc(a, b, func(x, y api.Rule) bool { return alikeSides(x, y) && x.Cost == y.Cost })
}

func alikeCosts(a, b api.Costs) bool {
	return a.More == b.More && a.Less == b.Less && a.Other == b.Other && a.Turned == b.Turned && alikeRules(a.Rules, b.Rules)
}

func alike(a, b api.Image) bool {
	return alikeStates(a.States, b.States) && alikeCosts(a.Costs, b.Costs)
}

// brief is what is told of a fault's image, or words, which may be very long.
func brief(x any) string {
	s := fmt.Sprint(x)
	if len(s) > 300 {
		return s[:300] + " .."
	}
	return s
}

// lists are the lists of at most so many of these, the shorter ones first.
func lists[T any](of []T, long int) [][]T {
	out := [][]T{{}}
	begin := 0
	for range long {
		end := len(out)
		for _, l := range out[begin:end] {
			for _, x := range of {
				out = append(out, append(slices.Clone(l), x))
			}
		}
		begin = end
	}
	return out
}

// dice are numbers that look like any, the same each time.
type dice uint64

func (d *dice) next() uint64 {
	*d = *d*6364136223846793005 + 1442695040888963407
	n := uint64(*d)
	return (n ^ n>>29) * 0xbf58476d1ce4e5b9
}

func (d *dice) below(n int) int {
	return int(d.next() >> 20 % uint64(n))
}

// automaton is one of so many states, with some arcs by signs of these, and few ones Final.
func (d *dice) automaton(many, arcs int, signs ...int) []api.State {
	l := make([]api.State, many)
	for at := range l {
		l[at].Final = at > 0 && d.below(3) == 0 || d.below(20) == 0
		for _, n := range signs {
			if at < many-1 && d.below(len(signs)) < arcs {
				l[at].Arcs = append(l[at].Arcs, api.Arc{Sign: n, To: at + 1 + d.below(min(4, many-1-at))})
			}
		}
	}
	return l
}

// row are so many states, each of which leads to the next one, and the last one of which is Final.
func row(n int) []api.State {
	return ladder(n, 97)
}

// ladder is so many states, each of which leads by each of the signs to the next one. The last one is Final.
func ladder(states int, signs ...int) []api.State {
	l := make([]api.State, states)
	for at := range states - 1 {
		for _, n := range signs {
			l[at].Arcs = append(l[at].Arcs, api.Arc{Sign: n, To: at + 1})
		}
	}
	l[states-1].Final = true
	return l
}

// signs are so many, from a first one on.
func signs(from, many int) []int {
	l := []int{}
	for i := range many {
		l = append(l, from+i)
	}
	return l
}

// wide is a start with arcs by so many signs, all to one state that is Final.
func wide(n int) []api.State {
	return ladder(2, signs(60000, n)...)
}

// counted is an automaton with as many words as a number says, whose digits, each up to 15, are these, the highest one first. They have as many signs as there are digits, at most: each state behind the start has sixteen times the words of the next one.
func counted(digits ...int) []api.State {
	l := append(make([]api.State, 1), ladder(len(digits), signs(97, 16)...)...)
	for at := range l[1:] {
		for i := range l[1+at].Arcs {
			l[1+at].Arcs[i].To++
		}
	}
	for i, digit := range digits {
		for range digit {
			l[0].Arcs = append(l[0].Arcs, api.Arc{Sign: 60000 + len(l[0].Arcs), To: 1 + i})
		}
	}
	return l
}

// distinct are so many words that fit, and rise.
func distinct(n int) [][]int {
	out := [][]int{}
	for i := range n {
		w := []int{200 + i/7}
		if i%7 > 0 {
			w = append(w, 100+i%7)
		}
		out = append(out, w)
	}
	return out
}

// apart are so many words of so many signs, that rise and have nothing alike.
func apart(n, long int) [][]int {
	out := [][]int{}
	for i := range n {
		out = append(out, slices.Repeat([]int{1000 + i}, long))
	}
	return out
}

// distinctRules are so many rules in order, of unlike sides.
func distinctRules(n int) []api.Rule {
	out := []api.Rule{}
	for i := range n {
		out = append(out, api.Rule{Left: []int{300 + i/7}, Right: []int{200 + i%7, 97}, Cost: uint64(5000 - i)})
	}
	return out
}

// goodSign says what the chapters say of a sign.
func goodSign(n int) bool {
	return n >= 0 && n < 55296 || n > 57343 && n <= 1114111
}

// slowAuto says what the chapter of automata says of one that may be.
func slowAuto(l []api.State) bool {
	for at, s := range l {
		for i, a := range s.Arcs {
			if !goodSign(a.Sign) || !(at < a.To && a.To < len(l)) || i > 0 && s.Arcs[i-1].Sign >= a.Sign {
				return false
			}
		}
	}
	return 1 <= len(l) && len(l) <= 6001
}

// slowFits says what the chapters say of a rule that fits.
func slowFits(r api.Rule) bool {
	for _, l := range [][]int{r.Left, r.Right} {
		if len(l) > 8 || slices.Equal(l, []int{95}) {
			return false
		}
		for _, n := range l {
			if !goodSign(n) || n == 9 || n == 10 || n == 32 {
				return false
			}
		}
	}
	return !slices.Equal(r.Left, r.Right) && r.Cost < 18446744073709551615
}

// compareSides is less than 0 if a's sides stand ahead of b's.
func compareSides(a, b api.Rule) int {
	return cmp.Or(slices.Compare(a.Left, b.Left), slices.Compare(a.Right, b.Right))
}

// slowCosts says what the chapter of rule files says of costs that may be.
func slowCosts(c api.Costs) bool {
	for _, n := range []uint64{c.More, c.Less, c.Other, c.Turned} {
		if n == 18446744073709551615 {
			return false
		}
	}
	for i, r := range c.Rules {
		if !slowFits(r) || i > 0 && compareSides(c.Rules[i-1], r) >= 0 {
			return false
		}
	}
	return len(c.Rules) <= 200
}

// slowBehind is of each state that the start leads to just how many words go on from it, however many they are.
func slowBehind(l []api.State) map[int]*big.Int {
	known := map[int]*big.Int{}
	var behind func(at int) *big.Int
	behind = func(at int) *big.Int {
		if n, has := known[at]; has {
			return n
		}
		n := new(big.Int)
		if l[at].Final {
			n.SetInt64(1)
		}
		for _, a := range l[at].Arcs {
			n.Add(n, behind(a.To))
		}
		known[at] = n
		return n
	}
	behind(0)
	return known
}

func slowMany(l []api.State) *big.Int {
	return slowBehind(l)[0]
}

// slowDeep is how many signs the longest word has; -1, if there is none. Lengths are gone through one by one, with all states that so many signs lead to.
func slowDeep(l []api.State) int {
	deep := -1
	reached := map[int]bool{0: true}
	for long := 0; len(reached) > 0; long++ {
		next := map[int]bool{}
		for at := range reached {
			if l[at].Final {
				deep = long
			}
			for _, a := range l[at].Arcs {
				next[a.To] = true
			}
		}
		reached = next
	}
	return deep
}

// slowCheck says what the chapter says of an image.
func slowCheck(x api.Image) api.Errno {
	switch {
	case !slowAuto(x.States):
		return api.ErrAuto
	case !slowCosts(x.Costs):
		return api.ErrRule
	case slowMany(x.States).Cmp(big.NewInt(most)) > 0:
		return api.ErrMany
	case slowDeep(x.States) > longest || x.States[0].Final:
		return api.ErrLong
	}
	return api.OK
}

// slowWords are an automaton's words, in order, one by one.
func slowWords(l []api.State) [][]int {
	out := [][]int{}
	behind := slowBehind(l)
	var tell func(at int, ahead []int)
	tell = func(at int, ahead []int) {
		if l[at].Final {
			out = append(out, ahead)
		}
		for _, a := range l[at].Arcs {
			// Of ways on which no word ends there may be far more than could be gone through.
			if behind[a.To].Sign() > 0 {
				tell(a.To, append(slices.Clone(ahead), a.Sign))
			}
		}
	}
	tell(0, []int{})
	slices.SortFunc(out, slices.Compare)
	return out
}

// slowList says what the chapter of word lists says of words that are to be written.
func slowList(l [][]int) api.Errno {
	if len(l) > most {
		return api.ErrMany
	}
	for i, w := range l {
		if len(w) == 0 || len(w) > longest || w[0] == 35 || i > 0 && slices.Compare(l[i-1], w) >= 0 {
			return api.ErrLong
		}
		for _, n := range w {
			if !goodSign(n) || n == 9 || n == 10 || n == 32 {
				return api.ErrLong
			}
		}
	}
	return api.OK
}

// endings are what stands behind a beginning of words, as one text.
func endings(l [][]int, u []int) string {
	s := ""
	for _, w := range l {
		if len(w) >= len(u) && slices.Equal(w[:len(u)], u) {
			s += fmt.Sprint(w[len(u):]) + ";"
		}
	}
	return s
}

// class is the beginnings that have the same endings, in order.
type class [][]int

func (c class) longest() int {
	long := 0
	for _, u := range c {
		long = max(long, len(u))
	}
	return long
}

// slowLeast says what the chapter of least automata says of the one of words.
func slowLeast(l [][]int) []api.State {
	begins := [][]int{{}}
	for _, w := range l {
		for i := range w {
			begins = append(begins, w[:i+1])
		}
	}
	slices.SortFunc(begins, slices.Compare)
	begins = slices.CompactFunc(begins, func(a, b []int) bool { return slices.Equal(a, b) })
	alike := map[string]class{}
	for _, u := range begins {
		alike[endings(l, u)] = append(alike[endings(l, u)], u)
	}
	classes := []class{}
	for _, c := range alike {
		classes = append(classes, c)
	}
	slices.SortFunc(classes, func(a, b class) int {
		return cmp.Or(cmp.Compare(a.longest(), b.longest()), slices.Compare(a[0], b[0]))
	})
	place := map[string]int{}
	for at, c := range classes {
		for _, u := range c {
			place[fmt.Sprint(u)] = at
		}
	}
	out := make([]api.State, len(classes))
	for _, u := range begins {
		at := place[fmt.Sprint(u)]
		out[at].Final = slices.ContainsFunc(l, func(w []int) bool { return slices.Equal(w, u) })
		if !slices.Equal(u, classes[at][0]) {
			continue
		}
		for _, v := range begins {
			if len(v) == len(u)+1 && slices.Equal(v[:len(u)], u) {
				out[at].Arcs = append(out[at].Arcs, api.Arc{Sign: v[len(u)], To: place[fmt.Sprint(v)]})
			}
		}
	}
	return out
}

// checkUsed holds an image that may be used against its words.
func checkUsed(t *testing.T, x api.Image, want [][]int) {
	t.Helper()
	if err := Check(x); err != api.OK {
		t.Fatalf("Check(%s) tells %d", brief(x), err)
	}
	if got, err := Words(x); err != api.OK || !alikeWords(got, want) {
		t.Fatalf("Words(%s) is %s, %d, want %s", brief(x), brief(got), err, brief(want))
	}
}

// checkFault holds an image that may not be used against what is told of it.
func checkFault(t *testing.T, x api.Image, fault api.Errno) {
	t.Helper()
	if err := Check(x); err != fault {
		t.Fatalf("Check(%s) tells %d, want %d", brief(x), err, fault)
	}
	if got, err := Words(x); err != fault || len(got) != 0 {
		t.Fatalf("Words(%s) is %s, %d, want %d", brief(x), brief(got), err, fault)
	}
}

// checkSlow holds an image against what the chapter says.
func checkSlow(t *testing.T, x api.Image) api.Errno {
	t.Helper()
	fault := slowCheck(x)
	if fault != api.OK {
		checkFault(t, x, fault)
		return fault
	}
	checkUsed(t, x, slowWords(x.States))
	return api.OK
}

// checkMake holds the image of words against what the chapters say.
func checkMake(t *testing.T, l [][]int, c api.Costs) {
	t.Helper()
	want := api.Image{States: slowLeast(l), Costs: deepCosts(c)}
	if got, err := Make(l, c); err != api.OK || !alike(got, want) {
		t.Fatalf("Make(%s, %s) is %s, %d, want %s", brief(l), brief(c), brief(got), err, brief(want))
	}
}

func checkUnmade(t *testing.T, l [][]int, c api.Costs, fault api.Errno) {
	t.Helper()
	if got, err := Make(l, c); err != fault || !isEmpty(got) {
		t.Fatalf("Make(%s, %s) is %s, %d, want %d", brief(l), brief(c), brief(got), err, fault)
	}
}

func isEmpty(x api.Image) bool {
	return len(x.States) == 0 && len(x.Costs.Rules) == 0 && x.Costs.More == 0 && x.Costs.Less == 0 && x.Costs.Other == 0 && x.Costs.Turned == 0
}

// goodCosts are costs that may be.
func goodCosts() []api.Costs {
	eight := []api.Rule{}
	for i := range 200 {
		eight = append(eight, api.Rule{Left: slices.Repeat([]int{1000 + i}, 8), Right: slices.Repeat([]int{api.MaxRune}, 8), Cost: api.Inf - 1})
	}
	return []api.Costs{
		{}, ones(), costs(1, 2, 3, 4), costs(api.Inf-1, api.Inf-1, api.Inf-1, api.Inf-1), {Rules: []api.Rule{}},
		ones(from("f", "ph", 2)), costs(0, 0, 0, 0, from("", "s", 0)), costs(9, 8, 7, 6, from("s", "", api.Inf-1)), ones(api.Rule{Right: []int{0}}, api.Rule{Left: []int{0}}),
		ones(from("", "a", 0), from("", "aa", 1), from("a", "", 127), from("a", "b", 128), from("aa", "", 3), from("b", "a", 3)),
		ones(distinctRules(3)...), costs(5, 6, 7, 8, distinctRules(199)...), costs(5, 6, 7, 8, distinctRules(200)...), costs(5, 6, 7, 8, eight...),
	}
}

// badCosts are costs that may not be.
func badCosts() []api.Costs {
	out := []api.Costs{costs(api.Inf, 1, 1, 1), costs(1, api.Inf, 1, 1), costs(1, 1, api.Inf, 1), costs(1, 1, 1, api.Inf), costs(1, api.Inf, 1, 1, from("a", "b", 1)), costs(api.Inf, api.Inf, api.Inf, api.Inf, distinctRules(201)...)}
	for _, l := range [][]api.Rule{
		{from("b", "a", 1), from("a", "b", 1)}, {from("a", "c", 1), from("a", "b", 1)}, {from("a", "b", 1), from("a", "", 1)}, {from("aa", "b", 1), from("a", "c", 1)},
		{from("a", "b", 1), from("a", "b", 1)}, {from("a", "b", 1), from("a", "b", 2)}, {from("a", "b", 2), from("a", "b", 1)}, {from("", "b", 1), from("a", "b", 2), from("a", "b", 2)},
		{{}}, {from("a", "a", 1)}, {from("ab", "ab", 0)}, {from("a", "b", api.Inf)}, {from("a", "b c", 1)}, {from("a\t", "b", 1)}, {from("a", "\n", 1)}, {from("_", "b", 1)}, {from("a", "_", 1)},
		{from("abcdefghi", "b", 1)}, {from("a", "abcdefghi", 1)}, {{Left: []int{-1}}}, {{Right: []int{55296}}}, {{Left: []int{57343}, Right: []int{97}}}, {{Right: []int{1114112}}}, {{Right: []int{1<<32 + 97}}},
		{{Left: []int{math.MaxInt}}}, {{Left: []int{math.MinInt}}}, {{Left: make([]int, 100000)}}, {from("a", "b", 1), from("a", "c", api.Inf)}, distinctRules(201), append(distinctRules(5), distinctRules(4)...), make([]api.Rule, 100000),
	} {
		out = append(out, ones(l...))
	}
	return out
}

// badStates are automata that may not be.
func badStates() [][]api.State {
	last := state(true)
	out := [][]api.State{
		nil, {}, make([]api.State, 3)[:0], row(6002), make([]api.State, 6002), make([]api.State, 100000),
		{state(false, 97, 0)}, {state(false, 97, 1)}, {state(false, 97, -1)}, {state(true, 97, 1)}, {state(false, 97, 2), last}, {last, state(false, 97, 1)}, {last, state(false, 97, 0)},
		{state(false, 97, math.MaxInt), last}, {state(false, 97, math.MinInt), last}, {state(false, 1<<32+97, 1), last}, {state(false, 97, 1<<32+1), last},
		{state(false, 97, 1, 97, 1), last}, {state(false, 98, 1, 97, 1), last}, {state(false, 97, 1, 98, 1, 98, 1), last}, {state(false, 97, 1, 98, 0), last}, {state(false, 97, 1, 98, 1, 0, 1), last},
		{state(true), state(true), state(true, 97, 3)}, {state(true), state(true), state(false, 5, 1)}, {state(false, 97, 2), state(false, 97, 2, 97, 2), last},
	}
	for _, n := range []int{-1, 55296, 57343, 1114112, math.MinInt, math.MaxInt} {
		out = append(out, []api.State{state(false, n, 1), last}, []api.State{state(false, 97, 2), state(false, n, 2), last})
	}
	// Those of too many words, or too long ones, of which one arc is wrong.
	for _, l := range [][]api.State{wide(301), row(22), ladder(10, 97, 98), ladder(300, 97, 98)} {
		for at := range len(l) - 1 {
			wrong := deepStates(l)
			wrong[at].Arcs[len(wrong[at].Arcs)-1].To = at
			if at < 3 || at > len(l)-3 {
				out = append(out, wrong)
			}
		}
	}
	return out
}

// tooMany are automata with more words than may be.
func tooMany() [][]api.State {
	out := [][]api.State{
		wide(301), wide(302), wide(600), wide(65536), counted(1, 2, 13), counted(1, 3, 0), counted(15, 15, 15), ladder(11, 97, 98), ladder(10, 97, 98), ladder(7, 97, 98, 99),
		// Of some of them no word is too long, of others some are, or all.
		ladder(22, 97, 98), ladder(23, 97, 98), ladder(6001, 97, 98), ladder(6001, 0, 1, 2, 97, 8364, api.MaxRune),
	}
	// Nothing is one of the words, too.
	for _, l := range [][]api.State{wide(300), wide(301), counted(1, 2, 12), ladder(6001, 97, 98)} {
		l[0].Final = true
		out = append(out, l)
	}
	// All but the last one of them are ones that are Final: 301 words, 280 of which are too long.
	l := row(301)
	for at := range l {
		l[at].Final = true
	}
	return append(out, l)
}

// tooLong are automata of few enough words, some of which are too long.
func tooLong() [][]api.State {
	out := [][]api.State{row(22), row(23), row(100), row(6001), ladder(22, 97), {state(true)}, {state(true), state(true)}, {state(true, 97, 1), state(true)}, {state(true, 97, 1), state(false)}}
	// One long word beside one, or 299, short ones.
	for _, n := range []int{1, 299} {
		l := row(22)
		for _, sign := range signs(1000, n) {
			l[0].Arcs = append(l[0].Arcs, api.Arc{Sign: sign, To: 21})
		}
		out = append(out, l)
	}
	// The same, where the short way to a state comes ahead of the long one.
	l := row(22)
	for at := range 20 {
		l[at].Arcs = append([]api.Arc{{Sign: 5, To: 21}}, l[at].Arcs...)
	}
	out = append(out, l)
	for _, l := range [][]api.State{wide(299), counted(1, 2, 11), row(21), row(22), wide(1)} {
		l[0].Final = true
		out = append(out, l)
	}
	l = row(300)
	for at := range l {
		l[at].Final = true
	}
	return append(out, l)
}

// goodStates are automata of words that are few enough, and short enough.
func goodStates() [][]api.State {
	out := [][]api.State{
		{state(false)}, {state(false), state(true)}, {state(false), state(false)}, {state(false, 97, 1), state(false)}, {state(false, 97, 1), state(true)}, {state(false, 0, 1, api.MaxRune, 1), state(true)},
		{state(false, 97, 1, 98, 1), state(true)}, {state(false, 97, 1, 98, 2, 99, 1), state(true), state(false)}, {state(false, 97, 2, 99, 1), state(true, 0, 2, api.MaxRune, 2), state(true)},
		{state(false, api.LowHalf-1, 1, api.HighHalf+1, 2), state(false, api.LowHalf-2, 2, api.LowHalf-1, 2), state(true)}, {state(false, 97, 2), state(true), state(true, 98, 3), state(true)},
		// Words of signs that no list has: a tab, an end of a line, a blank, and a sign # ahead.
		{state(false, 9, 1, 10, 1, 32, 1, 35, 1), state(true, 35, 2), state(true)},
		wide(1), wide(2), wide(299), wide(300), counted(1, 2, 12), counted(1, 2, 11), counted(1, 0, 0), counted(2, 0), ladder(9, 97, 98), row(2), row(3), row(20), row(21), ladder(21, 97), make([]api.State, 6001),
	}
	for _, l := range [][][]int{distinct(1), distinct(7), distinct(300), apart(2, 20), apart(300, 20), wordsOf("a", "ab", "abc", "b"), wordsOf("ac", "bc")} {
		all, _ := trie.Make(l)
		least, _ := dawg.Make(l)
		out = append(out, all, least)
	}
	nested := row(21)
	for at := 1; at < 21; at++ {
		nested[at].Final = true
	}
	return append(out, nested)
}

// moved are states whose arcs lead so many states further.
func moved(l []api.State, by int) []api.State {
	out := deepStates(l)
	for _, s := range out {
		for i := range s.Arcs {
			s.Arcs[i].To += by
		}
	}
	return out
}

// P16.1

func TestCheckOfTheExample(t *testing.T) {
	checkFault(t, api.Image{}, api.ErrAuto)
	checkFault(t, of(), api.ErrAuto)
	checkFault(t, of(make([]api.State, 5)[:0]...), api.ErrAuto)
	checkFault(t, api.Image{Costs: costs(api.Inf, 1, 1, 1)}, api.ErrAuto)
}

func TestCheckOfOneState(t *testing.T) {
	checkUsed(t, of(state(false)), nil)
	checkUsed(t, api.Image{States: make([]api.State, 1)}, nil)
	checkUsed(t, of(api.State{Arcs: []api.Arc{}}), nil)
	checkFault(t, of(state(true)), api.ErrLong)
	checkFault(t, of(state(false, 97, 1)), api.ErrAuto)
	checkFault(t, of(state(true, 97, 0)), api.ErrAuto)
	checkFault(t, api.Image{States: []api.State{state(false)}, Costs: costs(1, 1, 1, api.Inf)}, api.ErrRule)
	checkFault(t, api.Image{States: []api.State{state(true)}, Costs: costs(1, 1, 1, api.Inf)}, api.ErrRule)
}

func TestCheckOfSomeImages(t *testing.T) {
	checkUsed(t, of(state(false, 97, 1), state(true)), wordsOf("a"))
	checkUsed(t, of(state(false, 97, 1, 98, 1), state(false, 99, 2), state(true)), wordsOf("ac", "bc"))
	checkUsed(t, of(state(false, 97, 1), state(true, 98, 2), state(true)), wordsOf("a", "ab"))
	checkUsed(t, api.Image{States: []api.State{state(false, 97, 1), state(true)}, Costs: ones(from("f", "ph", 2))}, wordsOf("a"))
	checkUsed(t, of(state(false, 0, 1, 55295, 1, 57344, 1, 1114111, 1), state(true)), [][]int{{0}, {55295}, {57344}, {1114111}})
}

func TestCheckOfImagesThatMayBeUsed(t *testing.T) {
	for _, l := range goodStates() {
		want := slowWords(l)
		for _, c := range goodCosts() {
			checkUsed(t, api.Image{States: l, Costs: c}, want)
		}
	}
}

// What is wrong with an automaton is told whatever the costs are.
func TestCheckOfAutomataThatMayNotBe(t *testing.T) {
	for _, l := range badStates() {
		for _, c := range append(goodCosts(), badCosts()...) {
			checkFault(t, api.Image{States: l, Costs: c}, api.ErrAuto)
		}
	}
}

// What is wrong with costs is told ahead of what is wrong with words.
func TestCheckOfCostsThatMayNotBe(t *testing.T) {
	for _, c := range badCosts() {
		for _, l := range slices.Concat(goodStates(), tooMany(), tooLong()) {
			checkFault(t, api.Image{States: l, Costs: c}, api.ErrRule)
		}
	}
}

func TestCheckOfTooManyWords(t *testing.T) {
	for _, l := range tooMany() {
		for _, c := range goodCosts() {
			checkFault(t, api.Image{States: l, Costs: c}, api.ErrMany)
		}
	}
}

func TestCheckOfTooLongWords(t *testing.T) {
	for _, l := range tooLong() {
		for _, c := range goodCosts() {
			checkFault(t, api.Image{States: l, Costs: c}, api.ErrLong)
		}
	}
}

// Each number of words about the greatest one that may be, in automata of several forms; nothing among them, and not.
func TestCheckOfHowManyWords(t *testing.T) {
	for n := 290; n < 320; n++ {
		for _, l := range [][]api.State{wide(n), counted(n/256, n/16%16, n%16), counted(n/16, n%16), counted(n)} {
			ends := deepStates(l)
			ends[0].Final = true
			switch {
			case n <= 300:
				checkUsed(t, of(l...), slowWords(l))
			default:
				checkFault(t, of(l...), api.ErrMany)
			}
			switch {
			case n < 300:
				checkFault(t, of(ends...), api.ErrLong)
			default:
				checkFault(t, of(ends...), api.ErrMany)
			}
		}
	}
	for n := range 300 {
		checkUsed(t, of(wide(n)...), slowWords(wide(n)))
	}
}

// Each length about the greatest one that may be, beside other words and alone.
func TestCheckOfHowLongWords(t *testing.T) {
	for n := 1; n < 60; n++ {
		l := row(n + 1)
		beside := deepStates(l)
		beside[0].Arcs = append([]api.Arc{{Sign: 5, To: n}}, append(beside[0].Arcs, api.Arc{Sign: 98, To: n})...)
		for _, l := range [][]api.State{l, beside} {
			if n <= 20 {
				checkUsed(t, of(l...), slowWords(l))
				continue
			}
			checkFault(t, of(l...), api.ErrLong)
		}
	}
}

// So many words that counting them would wrap round to few of them, or to less than none.
func TestCheckOfFarTooManyWords(t *testing.T) {
	for _, low := range []int{0, 1, 5, 15} {
		for long := 4; long < 40; long++ {
			for high := 1; high < 16; high++ {
				digits := make([]int, long)
				digits[0], digits[long-1] = high, low
				checkFault(t, of(counted(digits...)...), api.ErrMany)
			}
		}
	}
	for long := 10; long < 140; long++ {
		checkFault(t, of(ladder(long, 97, 98)...), api.ErrMany)
	}
	checkFault(t, of(counted(slices.Repeat([]int{15}, 6000)...)...), api.ErrMany)
	checkFault(t, of(counted(append([]int{1}, make([]int, 5999)...)...)...), api.ErrMany)
	// Each state leads to each one behind it.
	l := make([]api.State, 1200)
	for at := range l {
		l[at].Final = at > 0
		for to := at + 1; to < len(l); to++ {
			l[at].Arcs = append(l[at].Arcs, api.Arc{Sign: to, To: to})
		}
	}
	checkFault(t, of(l...), api.ErrMany)
}

// What nothing leads to, and where no word ends, does not count, however much of it there is.
func TestCheckBesideWhatLeadsToNoWord(t *testing.T) {
	for _, other := range [][]api.State{wide(301), ladder(40, 97, 98), row(22), row(5000), ladder(5000, 97, 98, 99), {state(true)}} {
		// The first state of these is one that nothing leads to.
		for _, l := range [][]api.State{{state(false)}, row(2), row(21), wide(300)} {
			x := of(append(deepStates(l), moved(other, len(l))...)...)
			checkUsed(t, x, slowWords(l))
			x.States[0].Final = true
			if len(l) > 1 && len(l[0].Arcs) < 300 || len(l) == 1 {
				checkFault(t, x, api.ErrLong)
			}
		}
		// No word ends in these, to which the start leads.
		dead := deepStates(other)
		dead[len(dead)-1].Final = false
		dead[0].Final = false
		for _, l := range [][]api.State{{state(false)}, row(2), row(21), wide(300)} {
			x := of(append(deepStates(l), moved(dead, len(l))...)...)
			x.States[0].Arcs = append(x.States[0].Arcs, api.Arc{Sign: 100000, To: len(l)})
			checkUsed(t, x, slowWords(l))
			// Now one does.
			x.States[len(l)].Final = true
			if len(l) == 2 && len(l[0].Arcs) == 300 {
				checkFault(t, x, api.ErrMany)
				continue
			}
			checkUsed(t, x, append(slowWords(l), []int{100000}))
		}
	}
	// From each state of a word's way far more signs lead to where no word ends.
	l := append(row(21), moved(ladder(5000, 97, 98), 21)...)
	l[5020].Final = false
	for at := range 20 {
		l[at].Arcs = append(l[at].Arcs, api.Arc{Sign: 98, To: 21})
	}
	checkUsed(t, of(l...), [][]int{slices.Repeat([]int{97}, 20)})
}

// All automata of up to three states with these arcs, those that may be and those that may not.
func TestCheckOfAllShortAutomata(t *testing.T) {
	var arcs []api.Arc
	for _, n := range []int{97, 0, api.MaxRune} {
		for to := 1; to < 4; to++ {
			arcs = append(arcs, api.Arc{Sign: n, To: to})
		}
	}
	var most, few []api.State
	for _, l := range lists(arcs, 2) {
		most = append(most, api.State{Arcs: l}, api.State{Arcs: l, Final: true})
	}
	for _, l := range [][]int{nil, {0, 1}, {0, 2}, {1, 2}, {0, 1, 1, 1}, {0, 1, 1, 2}, {0, 2, 1, 1}, {0, 2, 1, 2}, {1, 1, 0, 1}, {0, 2, 1, 2, 2, 2}, {0, 1, 1, 1, 2, 1}, {0, 1, 1, 1, 2, 2}, {2, 3}} {
		few = append(few, state(false, l...), state(true, l...))
	}
	seen := map[api.Errno]int{}
	for _, l := range append(lists(most, 2), lists(few, 3)...) {
		seen[checkSlow(t, of(l...))]++
		x := api.Image{States: l, Costs: ones(from("b", "a", 1), from("a", "b", 1))}
		if err := Check(x); err != slowCheck(x) {
			t.Fatalf("Check(%v) tells %d", x, err)
		}
	}
	if seen[api.OK] < 200 || seen[api.ErrLong] < 200 || seen[api.ErrAuto] < 5000 {
		t.Errorf("%v", seen)
	}
}

func TestCheckOfAnyAutomata(t *testing.T) {
	seen := map[api.Errno]int{}
	d := dice(3)
	for i := range 6000 {
		x := api.Image{States: d.automaton(1+d.below(2+i%60), 1+d.below(3), 0, 97, 98, 8364, api.MaxRune)}
		switch d.below(8) {
		case 0:
			x.Costs = badCosts()[d.below(10)]
		case 1:
			s := &x.States[d.below(len(x.States))]
			s.Arcs = append(s.Arcs, api.Arc{Sign: 98 + d.below(3), To: d.below(len(x.States) + 1)})
		}
		seen[checkSlow(t, x)]++
	}
	for _, fault := range []api.Errno{api.OK, api.ErrAuto, api.ErrRule, api.ErrMany, api.ErrLong} {
		if seen[fault] < 50 {
			t.Errorf("%d of them tell %d", seen[fault], fault)
		}
	}
}

// P16.2

func TestMakeOfSomeWords(t *testing.T) {
	for _, test := range []struct {
		words [][]int
		want  []api.State
	}{
		{nil, []api.State{state(false)}},
		{[][]int{}, []api.State{state(false)}},
		{wordsOf("a"), []api.State{state(false, 97, 1), state(true)}},
		{wordsOf("a", "ab"), []api.State{state(false, 97, 1), state(true, 98, 2), state(true)}},
		{wordsOf("ac", "bc"), []api.State{state(false, 97, 1, 98, 1), state(false, 99, 2), state(true)}},
		{wordsOf("ab", "abc", "b"), []api.State{state(false, 97, 1, 98, 3), state(false, 98, 2), state(true, 99, 3), state(true)}},
		{wordsOf("abcdefghijklmnopqrst"), nil},
	} {
		for _, c := range goodCosts() {
			checkMake(t, test.words, c)
			if got, _ := Make(test.words, c); test.want != nil && !alikeStates(got.States, test.want) {
				t.Errorf("Make(%v) is %v, want %v", test.words, got.States, test.want)
			}
		}
	}
}

// someWords are lists of words that fit, and rise.
func someWords() [][][]int {
	out := [][][]int{
		{}, wordsOf("a"), wordsOf("a", "ba", "c"), wordsOf("abcdefghijklmnopqrst"), wordsOf("a", "ab", "abc", "b"), wordsOf("ac", "bc"), wordsOf("fa", "pha", "phb"), wordsOf("\x00", "\r", "z", "ä", "€", "\uffff", "😀"),
		{{0}, {0, 0}, {0, 35}, {api.LowHalf - 1}, {api.HighHalf + 1}, {api.MaxRune}, {api.MaxRune, api.MaxRune}},
		distinct(7), distinct(299), distinct(300), apart(299, 20), apart(300, 20), apart(300, 1),
	}
	nested, ends := [][]int{}, [][]int{}
	for i := range 300 {
		if i < 20 {
			nested = append(nested, slices.Repeat([]int{98}, i+1))
		}
		ends = append(ends, append([]int{1000 + i}, slices.Repeat([]int{97}, 19)...))
	}
	out = append(out, nested, ends)
	for seed := range 30 {
		d := dice(seed)
		l := [][]int{}
		for range 1 + d.below(10*(seed+1)) {
			w := []int{}
			for range 1 + d.below(4+seed/3) {
				w = append(w, []int{97, 98, 228, 8364, api.MaxRune}[d.below(5)])
			}
			l = append(l, w)
		}
		slices.SortFunc(l, slices.Compare)
		out = append(out, slices.CompactFunc(l, func(a, b []int) bool { return slices.Equal(a, b) }))
	}
	return out
}

func TestMakeAsTheChaptersSay(t *testing.T) {
	good := goodCosts()
	for i, l := range someWords() {
		checkMake(t, l, good[i%len(good)])
	}
	for _, texts := range lists([]string{"a", "ab", "b", "ba", "bb"}, 3) {
		l := wordsOf(texts...)
		if fault := slowList(l); fault != api.OK {
			checkUnmade(t, l, ones(), fault)
			continue
		}
		checkMake(t, l, ones(from("a", "b", 1)))
	}
}

// misfits are words that no list has.
func misfits() [][]int {
	return [][]int{
		nil, {}, {9}, {10}, {32}, {35}, word("#a"), word("a b"), word("ab\n"), word("\tab"), word("abcdefghijklmnopqrstu"),
		{-1}, {97, api.LowHalf}, {api.HighHalf, 97}, {97, api.MaxRune + 1, 97}, {1<<32 + 97}, {math.MinInt}, {math.MaxInt}, make([]int, 1000), make([]int, 100000),
	}
}

// badLists are words that are none of an automaton, and what is told of them.
func badLists() map[api.Errno][][][]int {
	long, many := [][][]int{wordsOf("b", "a"), wordsOf("a", "a"), wordsOf("ab", "a"), wordsOf("a", "b", "b"), wordsOf("a", "c", "b"), wordsOf("😀", "\uffff"), apart(300, 21), slices.Repeat(wordsOf("a"), 300)}, [][][]int{distinct(301), distinct(302), distinct(6002), apart(301, 20), apart(301, 21), slices.Repeat(wordsOf("a"), 301), make([][]int, 100000)}
	for _, w := range misfits() {
		long = append(long, [][]int{w}, [][]int{w, w}, append(distinct(299), w), slices.Insert(distinct(20), 0, w), slices.Insert(distinct(20), 10, w))
		many = append(many, append(distinct(300), w), slices.Repeat([][]int{w}, 301))
	}
	back := distinct(301)
	slices.Reverse(back)
	return map[api.Errno][][][]int{api.ErrLong: append(long, back[:300]), api.ErrMany: append(many, back)}
}

// What is wrong with words is told whatever the costs are.
func TestMakeOfWordsThatMayNotBe(t *testing.T) {
	for fault, bad := range badLists() {
		for _, l := range bad {
			for _, c := range append(goodCosts(), badCosts()...) {
				checkUnmade(t, l, c, fault)
			}
		}
	}
}

func TestMakeOfCostsThatMayNotBe(t *testing.T) {
	for _, c := range badCosts() {
		for _, l := range someWords() {
			checkUnmade(t, l, c, api.ErrRule)
		}
	}
}

// Each of these lists with good costs, and with bad ones.
func TestMakeTellsTheFirstError(t *testing.T) {
	words := append(wordsOf("a", "ab", "b", "ä", "a#", "", "#", "a b"), []int{-1}, []int{97, api.LowHalf})
	for _, l := range lists(words, 3) {
		fault := slowList(l)
		if _, err := dawg.Make(l); err != fault {
			t.Fatalf("dawg.Make(%v) tells %d, want %d", l, err, fault)
		}
		if fault == api.OK {
			checkMake(t, l, ones())
			fault = api.ErrRule
		} else {
			checkUnmade(t, l, ones(), fault)
		}
		checkUnmade(t, l, costs(1, 1, 1, api.Inf), fault)
		checkUnmade(t, l, ones(from("a", "a", 1)), fault)
	}
}

// Words of signs that no list has are told: an automaton may have them.
func TestWordsThatNoListHas(t *testing.T) {
	checkUsed(t, of(state(false, 9, 1, 10, 1, 32, 1, 35, 1), state(true, 35, 2), state(true)), wordsOf("\t", "\t#", "\n", "\n#", " ", " #", "#", "##"))
}

func TestWordsOfHowMany(t *testing.T) {
	for _, n := range []int{0, 1, 2, 299, 300} {
		want := [][]int{}
		for _, sign := range signs(60000, n) {
			want = append(want, []int{sign})
		}
		checkUsed(t, of(wide(n)...), want)
	}
	checkUsed(t, of(ladder(9, 97, 98)...), lists([]int{97, 98}, 8)[255:])
}

// P16.3

func TestWhatIsMadeMayBeUsed(t *testing.T) {
	for _, l := range someWords() {
		for _, c := range goodCosts() {
			x, err := Make(l, c)
			if err != api.OK {
				t.Fatalf("Make(%s, %s) tells %d", brief(l), brief(c), err)
			}
			checkUsed(t, x, l)
			checkKept(t, x)
		}
	}
}

func TestWhatMayBeUsedIsReadAsItWasWritten(t *testing.T) {
	for _, l := range goodStates() {
		for _, c := range goodCosts() {
			checkKept(t, api.Image{States: l, Costs: c})
		}
	}
	good := 0
	d := dice(17)
	for i := range 3000 {
		x := api.Image{States: d.automaton(1+d.below(2+i%30), 1+d.below(3), 0, 97, 98, 8364, api.MaxRune), Costs: goodCosts()[d.below(10)]}
		if Check(x) == api.OK {
			good++
			checkKept(t, x)
		}
	}
	if good < 500 {
		t.Errorf("%d of them may be used", good)
	}
}

// checkKept holds an image that may be used against what is read of it once it was written.
func checkKept(t *testing.T, x api.Image) {
	t.Helper()
	b, err := image.Write(x)
	if err != api.OK {
		t.Fatalf("Write(%s) tells %d", brief(x), err)
	}
	got, err := image.Read(b)
	if err != api.OK || !alike(got, x) {
		t.Fatalf("what is read of %s is %s, %d", brief(x), brief(got), err)
	}
	checkUsed(t, got, slowWords(x.States))
}

// What is made of an image's words has them again, in no more states.
func TestMakeOfAnImagesWords(t *testing.T) {
	for _, l := range goodStates() {
		x := of(l...)
		words, _ := Words(x)
		again, err := Make(words, x.Costs)
		if err != slowList(words) || len(again.States) > len(l) {
			t.Fatalf("Make(%s) is %s, %d", brief(words), brief(again), err)
		}
		if err == api.OK {
			checkUsed(t, again, words)
		}
	}
}

// R1

func TestGreatImages(t *testing.T) {
	var every api.State
	for n := range 1114112 {
		if goodSign(n) {
			every.Arcs = append(every.Arcs, api.Arc{Sign: n, To: 1 + n%6000})
		}
	}
	l := row(6001)
	l[0] = every
	checkFault(t, of(l...), api.ErrMany)
	l[6000].Final = false
	checkUsed(t, of(l...), nil)
	l[1].Final, l[2].Final = true, true
	checkFault(t, of(l...), api.ErrMany)
	l[1].Final, l[2].Final = false, false
	every.Arcs[55296].Sign = 55296
	checkFault(t, of(l...), api.ErrAuto)
	checkFault(t, of(make([]api.State, 3000000)...), api.ErrAuto)
	checkFault(t, of(row(100000)...), api.ErrAuto)
}

// What is more than may be is told without going through it.
func TestLongLists(t *testing.T) {
	long := make([]int, 3000000)
	for _, c := range []api.Costs{ones(make([]api.Rule, 3000000)...), ones(api.Rule{Left: long}), ones(slices.Repeat([]api.Rule{{Right: long, Cost: 1}}, 200)...)} {
		checkFault(t, api.Image{States: row(2), Costs: c}, api.ErrRule)
		checkUnmade(t, wordsOf("a"), c, api.ErrRule)
		checkUnmade(t, [][]int{long}, c, api.ErrLong)
		checkUnmade(t, slices.Repeat([][]int{long}, 301), c, api.ErrMany)
	}
	var was, is runtime.MemStats
	runtime.ReadMemStats(&was)
	checkUnmade(t, make([][]int, 3000000), ones(), api.ErrMany)
	checkUnmade(t, [][]int{long}, ones(), api.ErrLong)
	checkFault(t, of(ladder(6001, 97, 98)...), api.ErrMany)
	runtime.ReadMemStats(&is)
	if made := is.TotalAlloc - was.TotalAlloc; made > 200<<20 {
		t.Errorf("%d bytes are made", made)
	}
}

// R3

// roomy is an image whose lists lie over each other in one row of arcs, and one of signs, with spare room.
func roomy() (api.Image, []api.State, []api.Rule, []api.Arc, []int) {
	arcs := []api.Arc{{Sign: 97, To: 2}, {Sign: 98, To: 3}, {Sign: 99, To: 3}, {Sign: 100, To: 4}, {Sign: -1, To: -1}}
	states := []api.State{{Arcs: arcs[:2]}, {Final: true, Arcs: arcs[0:3]}, {Arcs: arcs[1:2]}, {Final: true, Arcs: arcs[3:3]}, {Arcs: arcs}, {Final: true}}
	signs := []int{102, 112, 104, 97, 98, 102, 112, 104, -1, 95, 32}
	rules := []api.Rule{
		{Left: signs[4:4], Right: signs[3:5], Cost: 1},
		{Left: signs[3:5], Right: signs[4:4], Cost: 1},
		{Left: signs[0:1], Right: signs[1:3], Cost: 3},
		{Left: signs[5:7], Right: signs[6:8], Cost: 2},
		{Left: signs[0:1], Right: signs[7:9], Cost: 0},
	}
	return api.Image{States: states[:4], Costs: costs(2, 3, 4, 5, rules[:4]...)}, states, rules, arcs, signs
}

func TestCheckAndWordsChangeNothing(t *testing.T) {
	x, states, rules, arcs, signs := roomy()
	keptStates, keptRules, keptArcs, keptSigns := deepStates(states), deepRules(rules), slices.Clone(arcs), slices.Clone(signs)
	for i := range len(states) + 1 {
		for j := range len(rules) + 1 {
			for k := range 2 {
				y := x
				y.States, y.Costs.Rules = states[:i], rules[:j]
				if k == 1 && i > 1 {
					y.States = states[1:i]
				}
				for range 2 {
					checkSlow(t, y)
				}
				if !alikeStates(states, keptStates) || !alikeRules(rules, keptRules) || !slices.Equal(arcs, keptArcs) || !slices.Equal(signs, keptSigns) {
					t.Fatalf("%v changes", y)
				}
			}
		}
	}
	if &states[1].Arcs[0] != &arcs[0] || &rules[2].Right[0] != &signs[1] {
		t.Error("the lists are others")
	}
}

func TestMakeChangesNothing(t *testing.T) {
	x, _, rules, _, signs := roomy()
	letters := []int{97, 98, 99, 98, 99, 100, -1, 35, 97}
	words := [][]int{letters[0:1], letters[0:2], letters[0:3], letters[1:3], letters[3:6], letters[2:3], letters[6:8], {7, 7}}
	keptRules, keptSigns, keptLetters, keptWords := deepRules(rules), slices.Clone(signs), slices.Clone(letters), deepWords(words)
	for i := range len(words) + 1 {
		for j := range len(rules) + 1 {
			c := x.Costs
			c.Rules = rules[:j]
			fault := slowList(words[:i])
			if fault == api.OK && !slowCosts(c) {
				fault = api.ErrRule
			}
			for range 2 {
				if fault == api.OK {
					checkMake(t, words[:i], c)
				} else {
					checkUnmade(t, words[:i], c, fault)
				}
			}
			if !alikeWords(words, keptWords) || !slices.Equal(letters, keptLetters) || !alikeRules(rules, keptRules) || !slices.Equal(signs, keptSigns) {
				t.Fatalf("Make(%v, %v) changes what it is handed", words[:i], c)
			}
		}
	}
	if &words[3][0] != &letters[1] || &rules[2].Right[0] != &signs[1] {
		t.Error("the lists are others")
	}
}

// What was made stays as it is, whatever becomes of what it was made of.
func TestMakeKeepsNothing(t *testing.T) {
	for _, l := range someWords() {
		for _, c := range goodCosts() {
			words, own := deepWords(l), deepCosts(c)
			got, _ := Make(words, own)
			want := deep(got)
			for _, w := range words {
				clear(w)
			}
			for i, r := range own.Rules {
				clear(r.Left)
				clear(r.Right)
				own.Rules[i] = api.Rule{Left: []int{7}}
			}
			clear(words)
			if !alike(got, want) {
				t.Fatalf("what is made of %s and %s changes with them", brief(l), brief(c))
			}
			// Nor do they with it.
			words, own = deepWords(l), deepCosts(c)
			got, _ = Make(words, own)
			spoil(got)
			if !alikeWords(words, l) || !alikeCosts(own, c) {
				t.Fatalf("%s and %s change with what is made of them", brief(l), brief(c))
			}
			checkMakeAgain(t, words, own, want)
		}
	}
}

func checkMakeAgain(t *testing.T, l [][]int, c api.Costs, want api.Image) {
	t.Helper()
	if got, err := Make(l, c); err != api.OK || !alike(got, want) {
		t.Fatalf("Make(%s, %s) is %s, %d, want %s", brief(l), brief(c), brief(got), err, brief(want))
	}
}

// spoil puts others in all places of an image's lists, those of their spare room too.
func spoil(x api.Image) {
	for i := range x.States[:cap(x.States)] {
		s := &x.States[:cap(x.States)][i]
		for j := range s.Arcs[:cap(s.Arcs)] {
			s.Arcs[:cap(s.Arcs)][j] = api.Arc{Sign: -7, To: -7}
		}
		*s = api.State{Final: true}
	}
	for i := range x.Costs.Rules[:cap(x.Costs.Rules)] {
		r := &x.Costs.Rules[:cap(x.Costs.Rules)][i]
		for _, side := range [][]int{r.Left, r.Right} {
			for j := range side[:cap(side)] {
				side[:cap(side)][j] = -7
			}
		}
		*r = api.Rule{Cost: 7}
	}
}

func TestWordsKeepNothing(t *testing.T) {
	for _, l := range goodStates() {
		x := of(deepStates(l)...)
		want := slowWords(l)
		first, _ := Words(x)
		second, _ := Words(x)
		for i := range first {
			fill(&first[i], -7)
		}
		fill(&first, []int{-7})
		if !alikeWords(second, want) || !alikeStates(x.States, l) {
			t.Fatalf("words of %s change with others", brief(l))
		}
		spoil(x)
		if !alikeWords(second, want) {
			t.Fatalf("words of %s change with it", brief(l))
		}
	}
}

// fill puts one in each place of a list, its spare room's too.
func fill[T any](l *[]T, x T) {
	for i := range (*l)[:cap(*l)] {
		(*l)[:cap(*l)][i] = x
	}
	*l = append((*l)[:len(*l):len(*l)], x)
}

// Each list of what is made is filled by itself, to its spare room's end, and all others are to stay as they are.
func TestWhatIsMadeSharesNoMemory(t *testing.T) {
	for i, l := range someWords() {
		c := goodCosts()[i%len(goodCosts())]
		if len(l) > 100 && len(c.Rules) > 100 {
			c.Rules = c.Rules[:20]
		}
		got, _ := Make(l, c)
		want := deep(got)
		for i := range got.States {
			fill(&got.States[i].Arcs, api.Arc{Sign: -7, To: -7})
			fill(&want.States[i].Arcs, api.Arc{Sign: -7, To: -7})
			if i < 50 && !alike(got, want) {
				t.Fatalf("lists of what is made of %s share memory", brief(l))
			}
		}
		for i := range got.Costs.Rules {
			g, w := &got.Costs.Rules[i], &want.Costs.Rules[i]
			fill(&g.Left, -5)
			fill(&w.Left, -5)
			if !alike(got, want) {
				t.Fatalf("sides of %s share memory", brief(c))
			}
			fill(&g.Right, -6)
			fill(&w.Right, -6)
			if !alike(got, want) {
				t.Fatalf("sides of %s share memory", brief(c))
			}
		}
		if !alike(got, want) {
			t.Fatalf("lists of what is made of %s and %s share memory", brief(l), brief(c))
		}
	}
}

func TestWordsShareNoMemory(t *testing.T) {
	for _, l := range goodStates() {
		got, _ := Words(of(l...))
		want := slowWords(l)
		for i := range got {
			fill(&got[i], -7)
			fill(&want[i], -7)
			if !alikeWords(got, want) {
				t.Fatalf("words of %s share memory", brief(l))
			}
		}
	}
}

// R4: what is in spare room, and how much there is, does not matter.
func TestTheSameEachTime(t *testing.T) {
	for _, l := range slices.Concat(goodStates(), tooMany(), tooLong(), badStates()[:30]) {
		x := of(deepStates(l)...)
		for i, s := range x.States {
			x.States[i].Arcs = append(make([]api.Arc, 0, len(s.Arcs)+3), s.Arcs...)
			x.States[i].Arcs[:len(s.Arcs)+1][len(s.Arcs)] = api.Arc{Sign: 97, To: 0}
		}
		x.States = append(x.States, state(true, 97, 0))[:len(l)]
		for range 2 {
			if got, want := Check(x), slowCheck(of(l...)); got != want {
				t.Fatalf("Check(%s) tells %d, want %d", brief(l), got, want)
			}
		}
	}
	for _, l := range someWords() {
		words := append(append(make([][]int, 0, len(l)+3), deepWords(l)...), []int{-1})[:len(l)]
		for i, w := range words {
			words[i] = append(append(make([]int, 0, len(w)+3), w...), -1)[:len(w)]
		}
		want, _ := Make(l, ones(from("f", "ph", 2)))
		rules := append(make([]api.Rule, 0, 4), from("f", "ph", 2), from("a", "a", 2))[:1]
		for range 3 {
			checkMakeAgain(t, words, ones(rules...), want)
		}
	}
}
