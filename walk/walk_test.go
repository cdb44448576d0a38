package walk

import (
	"fmt"
	"math"
	"slices"
	"testing"

	"spellwright/api"
	"spellwright/dawg"
	"spellwright/trie"
)

// word is a text's signs.
func word(s string) []int {
	l := []int{}
	for _, r := range s {
		l = append(l, int(r))
	}
	return l
}

func wordsOf(texts ...string) [][]int {
	out := [][]int{}
	for _, s := range texts {
		out = append(out, word(s))
	}
	return out
}

func deepCopy(l [][]int) [][]int {
	out := [][]int{}
	for _, w := range l {
		out = append(out, slices.Clone(w))
	}
	return out
}

func alikeWords(a, b [][]int) bool {
	return slices.EqualFunc(a, b, func(x, y []int) bool { return slices.Equal(x, y) })
}

// state is one that may be Final, with arcs of these signs and places, by turns.
func state(final bool, arcs ...int) api.State {
	s := api.State{Final: final}
	for i := 0; i < len(arcs); i += 2 {
		s.Arcs = append(s.Arcs, api.Arc{Sign: arcs[i], To: arcs[i+1]})
	}
	return s
}

func copyStates(l []api.State) []api.State {
	out := []api.State{}
	for _, s := range l {
		out = append(out, api.State{Final: s.Final, Arcs: slices.Clone(s.Arcs)})
	}
	return out
}

func alikeStates(a, b []api.State) bool {
	return slices.EqualFunc(a, b, func(x, y api.State) bool { return x.Final == y.Final && slices.Equal(x.Arcs, y.Arcs) })
}

// lists are the lists of at most so many of these, the shorter ones first.
func lists[T any](of []T, long int) [][]T {
	out := [][]T{{}}
	begin := 0
	for range long {
		end := len(out)
		for _, l := range out[begin:end] {
			for _, x := range of {
				out = append(out, append(slices.Clone(l), x))
			}
		}
		begin = end
	}
	return out
}

// short is what is told of a fault's automaton, or words, which may be very long.
func short(x any) string {
	s := fmt.Sprint(x)
	if len(s) > 300 {
		return s[:300] + " .."
	}
	return s
}

// dice are numbers that look like any, the same each time.
type dice uint64

func (d *dice) below(n int) int {
	*d = *d*6364136223846793005 + 1442695040888963407
	return int(uint64(*d) >> 33 % uint64(n))
}

// wideFrom is the first one of wide's signs: what is no sign stands ahead of all of them.
const wideFrom = 60000

// wide is a start with arcs by so many signs, all to one state that is Final.
func wide(n int) []api.State {
	s := api.State{}
	for i := range n {
		s.Arcs = append(s.Arcs, api.Arc{Sign: wideFrom + i, To: 1})
	}
	return []api.State{s, state(true)}
}

// ladder is so many states, each of which leads by each of the signs to the next one. The last one is Final; the others are, if all are to be.
func ladder(states int, all bool, signs ...int) []api.State {
	out := []api.State{}
	for at := range states {
		s := api.State{Final: all || at == states-1}
		for _, n := range signs {
			if at < states-1 {
				s.Arcs = append(s.Arcs, api.Arc{Sign: n, To: at + 1})
			}
		}
		out = append(out, s)
	}
	return out
}

// moved are states whose arcs lead so many states further.
func moved(l []api.State, by int) []api.State {
	out := copyStates(l)
	for _, s := range out {
		for i := range s.Arcs {
			s.Arcs[i].To += by
		}
	}
	return out
}

// rung is the word behind one of a ladder's, in order; false, if there is none.
func rung(w []int, states int, all bool, signs ...int) ([]int, bool) {
	w = slices.Clone(w)
	if len(w) < states-1 {
		return append(w, signs[0]), true
	}
	for len(w) > 0 && w[len(w)-1] == signs[len(signs)-1] {
		w = w[:len(w)-1]
	}
	if len(w) == 0 {
		return nil, false
	}
	w[len(w)-1] = signs[slices.Index(signs, w[len(w)-1])+1]
	for !all && len(w) < states-1 {
		w = append(w, signs[0])
	}
	return w, true
}

// rungs are so many of a ladder's words, from one of them on.
func rungs(w []int, many, states int, all bool, signs ...int) [][]int {
	out := [][]int{}
	is := true
	for is && len(out) < many {
		out = append(out, w)
		w, is = rung(w, states, all, signs...)
	}
	return out
}

// some is an automaton of any states and arcs that may be.
func some(d *dice) []api.State {
	l := make([]api.State, 1+d.below(10))
	dense := 2 + d.below(6)
	for at := range l {
		l[at].Final = d.below(3) == 0
		for _, n := range []int{0, 97, 98, 8364, api.MaxRune} {
			if at+1 < len(l) && d.below(10) < dense {
				l[at].Arcs = append(l[at].Arcs, api.Arc{Sign: n, To: at + 1 + d.below(min(3, len(l)-at-1))})
			}
		}
	}
	return l
}

// fourStates are all automata of four states with arcs by two signs.
func fourStates() [][]api.State {
	out := [][]api.State{{}}
	for at := range 4 {
		longer := [][]api.State{}
		for _, l := range out {
			for a := at; a < 4; a++ {
				for b := at; b < 4; b++ {
					s := api.State{}
					// To itself stands for none.
					if a > at {
						s.Arcs = append(s.Arcs, api.Arc{Sign: 97, To: a})
					}
					if b > at {
						s.Arcs = append(s.Arcs, api.Arc{Sign: 98, To: b})
					}
					longer = append(longer, append(slices.Clone(l), s), append(slices.Clone(l), api.State{Final: true, Arcs: s.Arcs}))
				}
			}
		}
		out = longer
	}
	return out
}

// bad are automata that may not be, of which each has a word, as its arcs stand.
func bad() [][]api.State {
	out := [][]api.State{
		nil, {}, make([]api.State, 2)[:0],
		{state(true, 97, 0)}, {state(true, 97, -1)}, {state(true, 97, 1)}, {state(true, 97, math.MaxInt)}, {state(true, 97, math.MinInt)},
		{state(true, 97, 1), state(true, 97, 0)}, {state(true, 97, 1), state(true, 97, 1)}, {state(true, 97, 1), state(true, 97, 2)}, {state(true, 97, 1), state(true, 97, -1)},
		{state(true, 97, 1<<32+1), state(true)}, {state(true), state(true), state(true, 97, 1)}, {state(true, 97, 2), state(true, 97, 1), state(true)},
		{state(true, 98, 1, 97, 1), state(true)}, {state(true, 97, 1, 97, 1), state(true)}, {state(true, 97, 1, 97, 2), state(true), state(true)}, {state(true, 97, 1), state(true, 99, 2, 98, 2), state(true)},
		{state(true, 97, 1), state(true), state(true, 98, 3, 98, 3), state(true)},
	}
	for _, n := range []int{-1, api.LowHalf, api.HighHalf, api.MaxRune + 1, 1<<32 + 97, math.MinInt, math.MaxInt} {
		out = append(out, []api.State{state(true, n, 1), state(true)}, []api.State{state(true, 97, 1), state(true), state(true, n, 3), state(true)})
	}
	// All that is wrong is how many they are.
	return append(out, ladder(6002, true, 97), append(ladder(6001, true, 97), api.State{}), make([]api.State, 6002), make([]api.State, 100000))
}

// someLists are lists of words that an automaton can be made of.
func someLists() [][][]int {
	out := [][][]int{
		{}, wordsOf("a"), wordsOf("a", "ba", "c"), wordsOf("abcdefghijklmnopqrst"), wordsOf("a", "ab"), wordsOf("a", "ab", "abc", "b"), wordsOf("ac", "bc"), wordsOf("ab", "ac", "b", "ba"),
		wordsOf("\x00", "\r", "z", "ä", "€", "\uffff", "😀"), {{0}, {0, 0}, {api.LowHalf - 1}, {api.HighHalf + 1}, {65535}, {65536}, {api.MaxRune, 0}, {api.MaxRune, api.MaxRune}},
	}
	var nested, first, last, far [][]int
	for i := range 300 {
		if i < 20 {
			nested = append(nested, slices.Repeat([]int{98}, i+1))
		}
		first = append(first, append([]int{1000 + i}, slices.Repeat([]int{97}, 19)...))
		last = append(last, append(slices.Repeat([]int{97}, 19), 1000+i))
		far = append(far, slices.Repeat([]int{1000 + i}, 20))
	}
	out = append(out, nested, first, last, far, far[:299], first[7:8])
	for seed := range 40 {
		d := dice(seed)
		l := [][]int{}
		for range 1 + d.below(300) {
			w := []int{}
			for range 1 + d.below(4+seed/3) {
				w = append(w, []int{97, 98, 228, 8364, api.MaxRune}[d.below(5)])
			}
			l = append(l, w)
		}
		slices.SortFunc(l, slices.Compare)
		out = append(out, slices.CompactFunc(l, func(a, b []int) bool { return slices.Equal(a, b) }))
	}
	return out
}

// slowWords says what the chapter says of an automaton's words, as far as they are fewer than many: all that leads, arc by arc, from the start to a state that is Final, in order.
func slowWords(l []api.State, many int) [][]int {
	out := [][]int{}
	type reached struct {
		at    int
		signs []int
	}
	todo := []reached{{}}
	for len(todo) > 0 && len(out) < many {
		r := todo[0]
		todo = todo[1:]
		if l[r.at].Final {
			out = append(out, r.signs)
		}
		for _, a := range l[r.at].Arcs {
			todo = append(todo, reached{a.To, append(slices.Clone(r.signs), a.Sign)})
		}
	}
	slices.SortFunc(out, slices.Compare)
	return out
}

// slowFrom says what the chapter says of words, all of them, from one on.
func slowFrom(all [][]int, w []int, n int) [][]int {
	out := [][]int{}
	for _, u := range all {
		if slices.Compare(u, w) >= 0 && len(out) < n {
			out = append(out, u)
		}
	}
	return out
}

func slowDeep(all [][]int) int {
	deep := -1
	for _, w := range all {
		deep = max(deep, len(w))
	}
	return deep
}

func isAmong(all [][]int, w []int) bool {
	return slices.ContainsFunc(all, func(u []int) bool { return slices.Equal(u, w) })
}

func checkHas(t *testing.T, l []api.State, w []int, want bool) {
	t.Helper()
	if got := Has(l, w); got != want {
		t.Errorf("Has of %s, %s is %t", short(l), short(w), got)
	}
}

func checkMany(t *testing.T, l []api.State, want int) {
	t.Helper()
	if got := Many(l); got != want {
		t.Errorf("Many of %s is %d, want %d", short(l), got, want)
	}
}

func checkDeep(t *testing.T, l []api.State, want int) {
	t.Helper()
	if got := Deep(l); got != want {
		t.Errorf("Deep of %s is %d, want %d", short(l), got, want)
	}
}

func checkWords(t *testing.T, l []api.State, want [][]int) {
	t.Helper()
	if got, err := Words(l); err != api.OK || !alikeWords(got, want) {
		t.Errorf("Words of %s are %s, %d, want %s", short(l), short(got), err, short(want))
	}
}

func checkFrom(t *testing.T, l []api.State, w []int, n int, want [][]int) {
	t.Helper()
	if got, err := From(l, w, n); err != api.OK || !alikeWords(got, want) {
		t.Errorf("From of %s, %s, %d is %s, %d, want %s", short(l), short(w), n, short(got), err, short(want))
	}
}

// checkNoWords holds an error of Words, and the empty answer beside it, against what is to be told.
func checkNoWords(t *testing.T, l []api.State, fault api.Errno) {
	t.Helper()
	if got, err := Words(l); err != fault || len(got) > 0 {
		t.Errorf("Words of %s are %s, %d, want %d", short(l), short(got), err, fault)
	}
}

// checkNoFrom does the same of From.
func checkNoFrom(t *testing.T, l []api.State, w []int, n int, fault api.Errno) {
	t.Helper()
	if got, err := From(l, w, n); err != fault || len(got) > 0 {
		t.Errorf("From of %s, %s, %d is %s, %d, want %d", short(l), short(w), n, short(got), err, fault)
	}
}

// checkAll holds all that is told of an automaton against its words, all of them.
func checkAll(t *testing.T, l []api.State, all [][]int) {
	t.Helper()
	checkMany(t, l, min(len(all), 301))
	checkDeep(t, l, slowDeep(all))
	if len(all) > 300 {
		checkNoWords(t, l, api.ErrMany)
	} else {
		checkWords(t, l, all)
	}
	checkFrom(t, l, nil, 300, slowFrom(all, nil, 300))
}

// about are lists of numbers that stand at words, and beside them.
func about(all [][]int) [][]int {
	out := [][]int{nil, {}, {0}, {-1}, {api.MaxRune}, {api.MaxRune + 1}, {math.MinInt}, {math.MaxInt}}
	for _, w := range all {
		out = append(out, w)
		for _, n := range []int{math.MinInt, -1, 0, 96, 97, 98, 99, api.MaxRune, api.MaxRune + 1, math.MaxInt} {
			out = append(out, append(slices.Clone(w), n))
		}
		for i := range w {
			out = append(out, w[:i])
			for _, n := range []int{math.MinInt, -1, w[i] - 1, w[i] + 1, math.MaxInt} {
				other := slices.Clone(w)
				other[i] = n
				out = append(out, other, other[:i+1])
			}
		}
	}
	return out
}

// P12.1: Has

func TestHasOfSomeWords(t *testing.T) {
	l := []api.State{state(false, 97, 1, 98, 2), state(true, 99, 3), state(false, 99, 3, 100, 4), state(true), state(false, 97, 5), {}}
	for _, w := range lists([]int{97, 98, 99, 100}, 4) {
		checkHas(t, l, w, isAmong(wordsOf("a", "ac", "bc"), w))
	}
	for _, w := range [][]int{{96}, {0}, {-1}, {math.MinInt}, {math.MaxInt}, {api.MaxRune + 1}, {1<<32 + 97}, {97, -1}, {97, 1<<32 + 99}, {97, 99, 99}, {97, 99, 0}, {98}, {98, 100}, {98, 100, 97}, {-159}} {
		checkHas(t, l, w, false)
	}
}

func TestHasOfNothing(t *testing.T) {
	for _, w := range [][]int{nil, {}, word("a")[:0]} {
		checkHas(t, []api.State{{}}, w, false)
		checkHas(t, []api.State{state(true)}, w, true)
		checkHas(t, []api.State{state(false, 97, 1), state(true)}, w, false)
		checkHas(t, []api.State{state(true, 97, 1), {}}, w, true)
	}
	checkHas(t, []api.State{state(true)}, []int{0}, false)
	checkHas(t, []api.State{state(true)}, []int{97}, false)
}

// Arcs may lead over states, and states that nothing leads to have no words.
func TestHasOfStatesBesideTheWay(t *testing.T) {
	l := []api.State{state(false, 97, 3), state(true, 98, 2), state(true), state(false, 99, 4), state(true)}
	checkHas(t, l, word("ac"), true)
	for _, s := range []string{"", "a", "b", "c", "ab", "bc", "acb"} {
		checkHas(t, l, word(s), false)
	}
}

func TestHasOfLongWords(t *testing.T) {
	for _, states := range []int{2, 22, 302, 6000, 6001} {
		l := ladder(states, false, 97, 99)
		for _, n := range []int{97, 99, 98, 96, 100} {
			for _, long := range []int{0, states - 2, states - 1, states, states + 1, 7000} {
				checkHas(t, l, slices.Repeat([]int{n}, long), long == states-1 && (n == 97 || n == 99))
			}
		}
		for _, at := range []int{0, (states - 1) / 2, states - 2} {
			w := slices.Repeat([]int{97}, states-1)
			w[at] = 99
			checkHas(t, l, w, true)
			w[at] = 98
			checkHas(t, l, w, false)
		}
	}
	checkHas(t, []api.State{state(false, 97, 1), state(true)}, make([]int, 10000000), false)
	checkHas(t, []api.State{state(false, 97, 1), state(true)}, slices.Repeat([]int{97}, 10000000), false)
}

// P12.1: Many

func TestManyOfSomeWords(t *testing.T) {
	checkMany(t, []api.State{{}}, 0)
	checkMany(t, []api.State{state(true)}, 1)
	checkMany(t, []api.State{state(false, 97, 1), {}}, 0)
	checkMany(t, []api.State{state(true, 97, 1), {}}, 1)
	checkMany(t, []api.State{state(true, 97, 1), state(true)}, 2)
	checkMany(t, []api.State{state(false, 97, 1, 98, 1), state(true)}, 2)
	checkMany(t, []api.State{state(false, 97, 1, 98, 1), state(false, 97, 2, 98, 2), state(true)}, 4)
	// What nothing leads to, and what leads to none that is Final, has none.
	checkMany(t, []api.State{{}, state(true), state(true, 97, 3), state(true)}, 0)
	checkMany(t, []api.State{state(false, 97, 2), state(true, 98, 2), state(false, 97, 3, 98, 3), {}}, 0)
	beside := append([]api.State{state(false, 97, 400)}, moved(ladder(399, true, 97, 98), 1)...)
	checkMany(t, append(beside, state(true, 97, 401), state(true)), 2)
}

func TestManyOfHowManyWords(t *testing.T) {
	for _, n := range []int{0, 1, 2, 20, 255, 256, 257, 298, 299, 300, 301, 302, 303, 511, 512, 600, 601, 602, 5000, 70000} {
		want := min(n, 301)
		checkMany(t, wide(n), want)
		l := wide(n)
		l[0].Final = true
		checkMany(t, l, min(n+1, 301))
		if n > 0 && n <= 6001 {
			checkMany(t, ladder(n, true, 97), want)
			checkMany(t, ladder(n, false, 97), 1)
		}
		// Two states that each have as many behind them.
		two := []api.State{state(false, 97, 1, 98, 2), {}, {}, state(true)}
		for i := range n {
			two[1].Arcs = append(two[1].Arcs, api.Arc{Sign: wideFrom + i, To: 3})
		}
		two[2].Arcs = two[1].Arcs
		checkMany(t, two, min(2*n, 301))
		two[0].Final, two[2].Final = true, true
		checkMany(t, two, min(2*n+2, 301))
	}
	for x := 1; x <= 40; x++ {
		for y := 1; y <= 40; y++ {
			l := []api.State{{}, {}, state(true)}
			for i := range max(x, y) {
				if i < x {
					l[0].Arcs = append(l[0].Arcs, api.Arc{Sign: i, To: 1})
				}
				if i < y {
					l[1].Arcs = append(l[1].Arcs, api.Arc{Sign: i, To: 2})
				}
			}
			checkMany(t, l, min(x*y, 301))
		}
	}
}

// So many words that no number holds how many, though the last ones behind may be few.
func TestManyOfFarTooManyWords(t *testing.T) {
	for _, states := range []int{10, 32, 33, 64, 65, 66, 100, 1000, 6000, 6001} {
		for _, all := range []bool{true, false} {
			for _, signs := range [][]int{{97, 98}, {0, 1, 2, 3}, {97, 98, 99}} {
				checkMany(t, ladder(states, all, signs...), 301)
			}
		}
	}
	// Words of which all but a few are behind what leads nowhere.
	l := ladder(6001, true, 97, 98)
	l[6000].Final = false
	for at := range l {
		l[at].Final = at < 3 || at == 5
	}
	checkMany(t, l, 1+2+4+32)
}

// P12.1: Deep

func TestDeepOfSomeWords(t *testing.T) {
	checkDeep(t, []api.State{{}}, -1)
	checkDeep(t, []api.State{state(true)}, 0)
	checkDeep(t, []api.State{state(false, 97, 1), {}}, -1)
	checkDeep(t, []api.State{state(true, 97, 1), {}}, 0)
	checkDeep(t, []api.State{state(false, 97, 1), state(true)}, 1)
	checkDeep(t, []api.State{state(false, 97, 2, 98, 1), state(false, 97, 2), state(true)}, 2)
	checkDeep(t, []api.State{state(false, 97, 1, 98, 2), state(false, 97, 2), state(true)}, 2)
	checkDeep(t, []api.State{state(false, 97, 1, 98, 2, 99, 3), {}, state(true), {}}, 1)
	// What nothing leads to, and what leads to none that is Final, says nothing.
	checkDeep(t, []api.State{{}, state(true), state(true, 97, 3), state(true)}, -1)
	checkDeep(t, []api.State{state(false, 97, 4), state(true, 97, 2), state(true, 97, 3), state(true, 97, 4), state(true)}, 1)
	checkDeep(t, []api.State{state(true, 97, 1), state(true, 97, 2), state(false, 97, 3), {}}, 1)
}

func TestDeepOfLongWords(t *testing.T) {
	for _, states := range []int{1, 2, 20, 21, 22, 300, 301, 302, 5999, 6000, 6001} {
		for _, all := range []bool{true, false} {
			checkDeep(t, ladder(states, all, 97), states-1)
			checkDeep(t, ladder(states, all, 97, 98, 99), states-1)
		}
		l := ladder(states, false, 97, 98)
		l[states-1].Final = false
		checkDeep(t, l, -1)
		for _, at := range []int{0, states / 3, states - 1} {
			l[at].Final = true
			checkDeep(t, l, at)
		}
		// A shorter way beside the long one, by the sign ahead and by the one behind.
		if states > 3 {
			for i := range 2 {
				l[0].Arcs[i].To = states - 1
				checkDeep(t, l, states-1)
				l[0].Arcs[1-i].To = states - 1
				checkDeep(t, l, 1)
				l[0].Arcs = []api.Arc{{Sign: 97, To: 1}, {Sign: 98, To: 1}}
			}
		}
	}
}

// P12.2

func TestWordsOfSomeAutomata(t *testing.T) {
	checkWords(t, []api.State{{}}, nil)
	checkWords(t, []api.State{state(true)}, [][]int{{}})
	checkWords(t, []api.State{state(false, 97, 1), {}}, nil)
	checkWords(t, []api.State{state(true, 97, 1), {}}, [][]int{{}})
	checkWords(t, []api.State{state(true, 97, 1), state(true)}, wordsOf("", "a"))
	checkWords(t, []api.State{state(false, 97, 2, 98, 1), state(true, 97, 2), state(false, 99, 3), state(true)}, wordsOf("ac", "b", "bac"))
	checkWords(t, []api.State{state(false, 97, 1, 98, 1), state(true, 97, 2, 98, 2), state(true)}, wordsOf("a", "aa", "ab", "b", "ba", "bb"))
	checkWords(t, []api.State{state(false, 0, 1, 97, 1, api.LowHalf-1, 1, api.HighHalf+1, 1, 65536, 1, api.MaxRune, 1), state(true)}, [][]int{{0}, {97}, {api.LowHalf - 1}, {api.HighHalf + 1}, {65536}, {api.MaxRune}})
	// What nothing leads to, and what leads to none that is Final.
	checkWords(t, []api.State{{}, state(true), state(true, 97, 3), state(true)}, nil)
	checkWords(t, []api.State{state(false, 97, 2, 98, 3, 99, 4), state(true, 97, 4), state(false, 97, 3, 98, 3), {}, state(true)}, wordsOf("c"))
}

func TestWordsOfHowMany(t *testing.T) {
	for _, n := range []int{0, 1, 299, 300} {
		want := [][]int{}
		for i := range n {
			want = append(want, []int{wideFrom + i})
		}
		checkWords(t, wide(n), want)
	}
	checkWords(t, ladder(300, true, 97), rungs(nil, 300, 300, true, 97))
	l := wide(299)
	l[0].Final = true
	checkWords(t, l, append([][]int{{}}, slowWords(wide(299), 300)...))
	l = wide(300)
	l[0].Final = true
	for _, many := range [][]api.State{l, wide(301), wide(302), wide(100000), ladder(301, true, 97), ladder(6001, true, 97), ladder(10, false, 97, 98), ladder(6001, false, 97, 98), ladder(6001, true, 97, 98, 99)} {
		checkNoWords(t, many, api.ErrMany)
	}
}

func TestWordsOfLongWords(t *testing.T) {
	checkWords(t, ladder(6001, false, 97), [][]int{slices.Repeat([]int{97}, 6000)})
	// As many as may be, each unlike in its first sign, or in its last one.
	first := ladder(6001, false, 97)
	first[0] = api.State{}
	last := ladder(6001, false, 97)
	last[5999] = api.State{}
	var wantFirst, wantLast [][]int
	row := slices.Repeat([]int{97}, 5999)
	for i := range 300 {
		first[0].Arcs = append(first[0].Arcs, api.Arc{Sign: i, To: 1})
		last[5999].Arcs = append(last[5999].Arcs, api.Arc{Sign: i, To: 6000})
		wantFirst = append(wantFirst, append([]int{i}, row...))
		wantLast = append(wantLast, append(slices.Clone(row), i))
	}
	checkWords(t, first, wantFirst)
	checkWords(t, last, wantLast)
}

// What leads to no word is not gone through way by way, wherever it stands.
func TestWordsBesideWhatLeadsToNone(t *testing.T) {
	none := ladder(5990, false, 97, 98, 99)
	none[5989].Final = false
	checkAll(t, none, nil)
	for _, sign := range []int{96, 97, 98, 99, 100} {
		l := append([]api.State{{}}, moved(none, 1)...)
		for _, n := range []int{96, 97, 98, 99, 100} {
			to := 1
			if n == sign {
				to = 5991
			}
			l[0].Arcs = append(l[0].Arcs, api.Arc{Sign: n, To: to})
		}
		l = append(l, state(true, 98, 5992), state(true))
		checkAll(t, l, [][]int{{sign}, {sign, 98}})
		for _, n := range []int{96, 97, 98, 99, 100} {
			w := append([]int{n}, slices.Repeat([]int{98}, 3000)...)
			checkFrom(t, l, w, 300, slowFrom([][]int{{sign}, {sign, 98}}, w, 300))
		}
	}
}

// Arcs that lead to no word, ahead of those that do, at each state of long words.
func TestWordsBesideManyArcsThatLeadToNone(t *testing.T) {
	l := ladder(4001, false, 5000)
	l[0] = api.State{}
	for i := range 300 {
		l[0].Arcs = append(l[0].Arcs, api.Arc{Sign: i, To: 1})
	}
	var none []api.Arc
	for i := range 500 {
		none = append(none, api.Arc{Sign: i, To: 4001})
	}
	want := [][]int{}
	for at := 1; at < 4000; at++ {
		l[at].Arcs = append(slices.Clone(none), l[at].Arcs...)
	}
	for i := range 300 {
		want = append(want, append([]int{i}, slices.Repeat([]int{5000}, 3999)...))
	}
	l = append(l, api.State{})
	checkWords(t, l, want)
	checkFrom(t, l, []int{150, 5000, 499}, 300, want[150:])
	checkFrom(t, l, []int{150, 5000, 5000, 5001}, 300, want[151:])
}

// P12.3

func TestFromOfSomeWords(t *testing.T) {
	l := []api.State{state(false, 97, 2, 98, 1, 99, 2), state(false, 97, 2), state(true)}
	for _, c := range []struct {
		w    string
		n    int
		want [][]int
	}{
		{"b", 1, wordsOf("ba")}, {"", 3, wordsOf("a", "ba", "c")}, {"", 2, wordsOf("a", "ba")}, {"", 0, nil}, {"a", 3, wordsOf("a", "ba", "c")}, {"aa", 3, wordsOf("ba", "c")}, {"b", 300, wordsOf("ba", "c")},
		{"ba", 300, wordsOf("ba", "c")}, {"baa", 300, wordsOf("c")}, {"bb", 300, wordsOf("c")}, {"c", 300, wordsOf("c")}, {"ca", 300, nil}, {"d", 300, nil}, {"`", 300, wordsOf("a", "ba", "c")}, {"b`", 300, wordsOf("ba", "c")}, {"zzzz", 300, nil},
	} {
		checkFrom(t, l, word(c.w), c.n, c.want)
	}
}

func TestFromOfBeginnings(t *testing.T) {
	// The words are nothing, a, ab, abc, abcd, b.
	l := []api.State{state(true, 97, 1, 98, 5), state(true, 98, 2), state(true, 99, 3), state(true, 100, 4), state(true), state(true)}
	all := wordsOf("", "a", "ab", "abc", "abcd", "b")
	checkAll(t, l, all)
	for i, w := range all {
		checkFrom(t, l, w, 300, all[i:])
		checkFrom(t, l, append(slices.Clone(w), 0), 300, all[i+1:])
		checkFrom(t, l, append(slices.Clone(w), math.MinInt), 300, all[i+1:])
	}
	checkFrom(t, l, word("abz"), 300, wordsOf("b"))
	checkFrom(t, l, word("abcz"), 300, wordsOf("b"))
	checkFrom(t, l, word("abcdz"), 300, wordsOf("b"))
	checkFrom(t, l, word("abb"), 300, wordsOf("abc", "abcd", "b"))
	checkFrom(t, l, word("az"), 1, wordsOf("b"))
	checkFrom(t, l, word("ba"), 1, nil)
}

func TestFromOfHowMany(t *testing.T) {
	for _, l := range [][]api.State{wide(0), wide(1), wide(5), wide(299), wide(300), wide(301), wide(1000), ladder(6, true, 97, 98), ladder(10, false, 97, 98)} {
		all := slowWords(l, 5000)
		for n := range 301 {
			checkFrom(t, l, nil, n, slowFrom(all, nil, n))
		}
		for _, n := range []int{-1, -2, 301, 302, 1 << 32, 1<<32 + 1, -1 << 32, math.MinInt, math.MinInt + 1, math.MaxInt, math.MaxInt32, math.MinInt32} {
			for _, w := range [][]int{nil, {0}, {97}, {wideFrom + 2}, {wideFrom + 3, 7}, {api.MaxRune + 1}} {
				checkNoFrom(t, l, w, n, api.ErrArg)
			}
		}
	}
}

func TestFromOfAutomataWithoutWords(t *testing.T) {
	for _, l := range [][]api.State{{{}}, {state(false, 97, 1), {}}, {{}, state(true)}, {state(false, 97, 2, 98, 2), state(true, 99, 2), {}}} {
		for _, w := range [][]int{nil, {97}, {98}, {99, 99}, {-1}} {
			for _, n := range []int{0, 1, 300} {
				checkFrom(t, l, w, n, nil)
			}
		}
	}
}

// Numbers that are no signs stand where numbers do.
func TestFromOfNumbersThatAreNoSigns(t *testing.T) {
	l := []api.State{state(false, 0, 1, api.LowHalf-1, 1, api.HighHalf+1, 1, api.MaxRune, 1), state(true, 97, 2), state(true)}
	all := slowWords(l, 100)
	for _, n := range []int{math.MinInt, math.MinInt32, -1, 0, 1, 97, 55294, 55295, 55296, 56000, 57343, 57344, 57345, 1114110, 1114111, 1114112, math.MaxInt32, 1 << 32, 1<<32 + 97, math.MaxInt} {
		for _, m := range []int{math.MinInt, -1, 0, 96, 97, 98, 55296, 1114112, 1<<32 + 97, math.MaxInt} {
			checkFrom(t, l, []int{n}, 300, slowFrom(all, []int{n}, 300))
			checkFrom(t, l, []int{n, m}, 300, slowFrom(all, []int{n, m}, 300))
			checkFrom(t, l, []int{n, m, n}, 300, slowFrom(all, []int{n, m, n}, 300))
			checkHas(t, l, []int{n, m}, isAmong(all, []int{n, m}))
		}
	}
}

// All words of a ladder, gone through one by one, and from each one on.
func TestFromEachOfManyWords(t *testing.T) {
	for _, all := range []bool{true, false} {
		l := ladder(7, all, 97, 99, 228)
		want := slowWords(l, 5000)
		for i, w := range want {
			checkFrom(t, l, w, 300, want[i:min(i+300, len(want))])
			checkFrom(t, l, w, 1, want[i:i+1])
			checkFrom(t, l, append(slices.Clone(w), 0), 7, want[i+1:min(i+8, len(want))])
		}
	}
}

// Automata that have far more words than can be gone through: those that are asked for are told at once, wherever they stand.
func TestFromOfFarTooManyWords(t *testing.T) {
	for _, states := range []int{65, 1000, 6001} {
		for _, all := range []bool{true, false} {
			l := ladder(states, all, 97, 99, 228)
			checkMany(t, l, 301)
			checkDeep(t, l, states-1)
			least := slices.Repeat([]int{97}, states-1)
			begin := least
			if all {
				begin = []int{}
			}
			told := func(w []int) [][]int { return rungs(w, 300, states, all, 97, 99, 228) }
			checkFrom(t, l, nil, 300, told(begin))
			checkFrom(t, l, []int{96}, 300, told(append([]int{97}, begin[min(1, len(begin)):]...)))
			mid := slices.Clone(least)
			d := dice(states)
			for i := range mid {
				mid[i] = []int{97, 99, 228}[d.below(3)]
			}
			checkFrom(t, l, mid, 300, told(mid))
			checkFrom(t, l, mid, 1, told(mid)[:1])
			// Behind a word, and behind all words that begin with most of its signs.
			checkFrom(t, l, append(slices.Clone(mid), 97), 299, told(mid)[1:])
			for _, alike := range []int{0, 1, states / 2, states - 2} {
				w := append(slices.Clone(mid[:alike]), 98)
				want := append(slices.Clone(mid[:alike]), 99)
				if !all {
					want = append(want, least[alike+1:]...)
				}
				checkFrom(t, l, w, 300, told(want))
				// The last word that begins so stands ahead of all that are behind those.
				last := slices.Concat(mid[:alike], slices.Repeat([]int{228}, states-1-alike))
				checkFrom(t, l, append(slices.Clone(mid[:alike]), 229), 299, told(last)[1:])
			}
			most := slices.Repeat([]int{228}, states-1)
			checkFrom(t, l, most, 300, [][]int{most})
			checkFrom(t, l, append(slices.Clone(most), 0), 300, nil)
			checkFrom(t, l, most[:states-2], 300, told(append(slices.Clone(most[:states-2]), begin[:max(0, len(begin)-states+2)]...)))
			checkFrom(t, l, []int{229}, 300, nil)
		}
	}
}

func TestFromOfVeryLongLists(t *testing.T) {
	l := ladder(6001, true, 97)
	w := slices.Repeat([]int{97}, 10000000)
	checkFrom(t, l, w, 300, nil)
	checkFrom(t, l, w[:6000], 300, [][]int{w[:6000]})
	checkFrom(t, l, w[:6001], 300, nil)
	w[5990] = 96
	checkFrom(t, l, w, 2, [][]int{slices.Repeat([]int{97}, 5991), slices.Repeat([]int{97}, 5992)})
	w[0] = 98
	checkFrom(t, l, w, 300, nil)
	w[0] = -1
	checkFrom(t, l, w, 1, [][]int{{97}})
}

// A state with as many arcs as there are signs, each behind the other.
func TestFromOfAllSigns(t *testing.T) {
	l := []api.State{{}, state(true), {}}
	for n := range api.MaxRune + 1 {
		if n < api.LowHalf || n > api.HighHalf {
			l[0].Arcs = append(l[0].Arcs, api.Arc{Sign: n, To: 1 + n%2})
		}
	}
	checkMany(t, l, 301)
	checkDeep(t, l, 1)
	for _, n := range []int{-1, 0, 1, 2, 600, 55000, 55294, 55295, 57344, 57345, 1113000, 1114110, 1114111, 1114112} {
		want := [][]int{}
		for m := max(n, 0); m <= api.MaxRune && len(want) < 300; m++ {
			if m%2 == 0 && (m < api.LowHalf || m > api.HighHalf) {
				want = append(want, []int{m})
			}
		}
		checkFrom(t, l, []int{n}, 300, want)
		checkHas(t, l, []int{n}, n >= 0 && n%2 == 0 && n <= api.MaxRune)
	}
}

// Each word is told once, and the last one told leads on to the next ones: so all of them come up.
func TestFromGoesOn(t *testing.T) {
	for _, l := range [][]api.State{ladder(7, true, 97, 98, 99), ladder(11, false, 97, 98), ladder(6001, true, 97), wide(5000)} {
		all := slowWords(l, 10000)
		for _, n := range []int{7, 299, 300} {
			w := []int{}
			at := 0
			for {
				got, err := From(l, w, n)
				if err != api.OK || at+len(got) > len(all) || !alikeWords(got, all[at:at+len(got)]) {
					t.Fatalf("From of %s, %s, %d is %s, %d", short(l), short(w), n, short(got), err)
				}
				at += len(got)
				if len(got) < n {
					break
				}
				w = append(got[n-1], 0)
			}
			if at != len(all) {
				t.Errorf("of %s %d words came up, not %d", short(l), at, len(all))
			}
		}
	}
}

// Against the chapter's words

func TestAllSmallAutomata(t *testing.T) {
	ws := append(lists([]int{96, 97, 98, 99}, 3), lists([]int{97, 98}, 5)...)
	for _, l := range fourStates() {
		all := slowWords(l, 100)
		checkAll(t, l, all)
		for _, w := range ws {
			checkHas(t, l, w, isAmong(all, w))
			checkFrom(t, l, w, 300, slowFrom(all, w, 300))
		}
		checkFrom(t, l, nil, 1, slowFrom(all, nil, 1))
		checkFrom(t, l, []int{97, 98}, 2, slowFrom(all, []int{97, 98}, 2))
		checkFrom(t, l, []int{98, 97}, 0, nil)
		if t.Failed() {
			return
		}
	}
}

func TestManyOtherAutomata(t *testing.T) {
	few, many := 0, 0
	d := dice(1)
	for range 3000 {
		l := some(&d)
		all := slowWords(l, 20000)
		if len(all) >= 20000 {
			checkMany(t, l, 301)
			continue
		}
		if len(all) > 300 {
			many++
		} else if len(all) > 3 {
			few++
		}
		checkAll(t, l, all)
		asked := slices.Clone(all)
		for len(asked) > 5 {
			asked = slices.Delete(asked, 0, 1+d.below(len(asked)/5))
		}
		for _, w := range about(asked) {
			n := d.below(301)
			checkHas(t, l, w, isAmong(all, w))
			checkFrom(t, l, w, n, slowFrom(all, w, n))
		}
		if t.Failed() {
			return
		}
	}
	if few < 300 || many < 30 {
		t.Errorf("%d of few words, %d of many", few, many)
	}
}

// Automata that may not be

func TestAutomataThatMayNotBe(t *testing.T) {
	for _, l := range bad() {
		checkMany(t, l, 0)
		checkDeep(t, l, -1)
		checkNoWords(t, l, api.ErrAuto)
		for _, w := range [][]int{nil, {}, {97}, {97, 97}, {98}, {97, 98}, {-1}, {api.LowHalf}, {math.MaxInt}, slices.Repeat([]int{97}, 6001)} {
			checkHas(t, l, w, false)
			// Whatever n is: ErrAuto is told ahead of ErrArg.
			for _, n := range []int{0, 1, 300, -1, 301, math.MinInt, math.MaxInt} {
				checkNoFrom(t, l, w, n, api.ErrAuto)
			}
		}
	}
}

func TestAutomataOfAsManyStatesAsMayBe(t *testing.T) {
	l := ladder(6001, false, 97)
	w := slices.Repeat([]int{97}, 6000)
	checkAll(t, l, [][]int{w})
	checkHas(t, l, w, true)
	checkFrom(t, l, w, 1, [][]int{w})
	checkAll(t, make([]api.State, 6001), nil)
}

// What is wrong anywhere is told, whether words lead there or not.
func TestAutomataThatAreWrongAnywhere(t *testing.T) {
	for _, at := range []int{0, 1, 2, 3000, 5999, 6000} {
		for _, a := range []api.Arc{{Sign: 97, To: at}, {Sign: 97, To: at - 1}, {Sign: 97, To: 6001}, {Sign: -1, To: at + 1}, {Sign: api.LowHalf, To: at + 1}} {
			l := make([]api.State, 6001)
			l[0] = state(true, 97, 1)
			l[at] = api.State{Final: true, Arcs: []api.Arc{a}}
			checkMany(t, l, 0)
			checkDeep(t, l, -1)
			checkHas(t, l, nil, false)
			checkNoWords(t, l, api.ErrAuto)
			checkNoFrom(t, l, nil, 1, api.ErrAuto)
		}
	}
}

// P12.4

func TestWordsOfWhatIsMadeOfWords(t *testing.T) {
	for _, all := range someLists() {
		begins, err := trie.Make(all)
		least, other := dawg.Make(all)
		if err != api.OK || other != api.OK {
			t.Fatalf("of %s nothing is made", short(all))
		}
		for _, l := range [][]api.State{begins, least} {
			checkAll(t, l, all)
			for _, w := range all {
				checkHas(t, l, w, true)
			}
			asked := all
			if len(all) > 5 {
				asked = [][]int{all[0], all[len(all)/2], all[len(all)-1]}
			}
			for i, w := range about(asked) {
				checkHas(t, l, w, isAmong(all, w))
				n := []int{300, i % 9}[i%2]
				checkFrom(t, l, w, n, slowFrom(all, w, n))
			}
			if made, err := trie.Make(slowFrom(all, nil, 300)); err != api.OK || !alikeStates(made, begins) {
				t.Errorf("the words of %s make another one", short(l))
			}
		}
	}
}

// R4

func TestTheSameEachTime(t *testing.T) {
	d := dice(7)
	for range 300 {
		l := some(&d)
		roomy := make([]api.State, 0, len(l)+3)
		for _, s := range l {
			roomy = append(roomy, api.State{Final: s.Final, Arcs: append(make([]api.Arc, 0, len(s.Arcs)+5), s.Arcs...)})
		}
		want, fault := Words(l)
		w := []int{97, d.below(100)}
		room := append(make([]int, 0, 9000), w...)
		some, _ := From(l, w, 9)
		for range 5 {
			got, err := Words(roomy)
			if err != fault || !alikeWords(got, want) || Many(l) != Many(roomy) || Deep(l) != Deep(roomy) || Has(l, w) != Has(roomy, room) {
				t.Fatalf("%s tells other words", short(l))
			}
			checkFrom(t, roomy, room, 9, some)
		}
	}
}

// R3

// States and words that lie in one row, with spare room behind: none of it is changed.
func TestNothingIsChanged(t *testing.T) {
	arcs := []api.Arc{{Sign: 97, To: 1}, {Sign: 98, To: 2}, {Sign: 99, To: 2}, {Sign: 100, To: 3}, {Sign: 101, To: 3}, {Sign: -1, To: -1}}
	states := []api.State{{Arcs: arcs[:2]}, {Final: true, Arcs: arcs[1:3]}, {Arcs: arcs[3:5]}, {Final: true, Arcs: arcs[5:5]}, {Arcs: arcs}, {}}
	signs := []int{97, 98, 100, 97, 99, 96, 98, 102, -5, 97}
	kept, keptArcs, keptSigns := copyStates(states), slices.Clone(arcs), slices.Clone(signs)
	for many := range len(states) + 1 {
		l := states[:many]
		for from := range signs {
			for to := from; to <= len(signs); to++ {
				w := signs[from:to]
				Has(l, w)
				for _, n := range []int{0, 1, 300, 301} {
					From(l, w, n)
				}
			}
		}
		Many(l)
		Deep(l)
		Words(l)
	}
	if !alikeStates(states, kept) || !slices.Equal(arcs, keptArcs) || !slices.Equal(signs, keptSigns) {
		t.Errorf("%v of %v with %v became %v of %v with %v", kept, keptArcs, keptSigns, states, arcs, signs)
	}
	if &states[1].Arcs[0] != &arcs[1] || &states[2].Arcs[0] != &arcs[3] {
		t.Error("the arcs are others")
	}
	// The words from b on begin with w itself, which has room behind.
	checkFrom(t, states[:4], signs[1:2], 300, wordsOf("bd", "be"))
	if !slices.Equal(signs, keptSigns) {
		t.Errorf("%v became %v", keptSigns, signs)
	}
}

// spoil changes all of words' memory, spare room too.
func spoil(l [][]int) {
	for i := range l[:cap(l)] {
		w := l[:cap(l)][i]
		for j := range w[:cap(w)] {
			w[:cap(w)][j] = -7
		}
		l[:cap(l)][i] = nil
	}
}

// What was told is neither what was handed in, nor what is told next.
func TestNothingIsKept(t *testing.T) {
	for _, all := range someLists() {
		l, _ := dawg.Make(all)
		kept := copyStates(l)
		x := copyStates(l)
		w := []int{98, 98, 98, 98, 97, 0, 0}[:4]
		want := slowFrom(all, w, 300)
		first, _ := Words(l)
		second, _ := Words(x)
		third, _ := From(x, w, 300)
		spoil(first)
		for _, s := range x {
			for j := range s.Arcs {
				s.Arcs[j] = api.Arc{Sign: -7, To: -7}
			}
		}
		if !slices.Equal(w[:7], []int{98, 98, 98, 98, 97, 0, 0}) {
			t.Errorf("of %s: w became %v", short(all), w[:7])
		}
		copy(w, []int{-7, -7, -7, -7})
		if !alikeWords(second, all) || !alikeWords(third, want) || !alikeStates(l, kept) {
			t.Errorf("of %s: %s, %s", short(all), short(second), short(third))
		}
		checkWords(t, l, all)
		checkMany(t, x, 0)
	}
}

// Each word, changed up to its spare room's end, and with more put behind, changes no others.
func TestWordsShareNoMemory(t *testing.T) {
	check := func(got [][]int) {
		t.Helper()
		want := deepCopy(got)
		for i := range got {
			room := got[i][:cap(got[i])]
			for j := range room {
				room[j] = -5 - i
			}
			got[i] = append(got[i], -5-i)
		}
		for i, w := range got {
			if len(w) != len(want[i])+1 || slices.ContainsFunc(w, func(n int) bool { return n != -5-i }) {
				t.Fatalf("word %d, %s, became %s", i, short(want[i]), short(w))
			}
		}
	}
	for _, all := range someLists() {
		l, _ := dawg.Make(all)
		got, _ := Words(l)
		check(got)
		for _, w := range [][]int{nil, {97}, {98}, {1100}, {97, 97}} {
			got, _ = From(l, w, 300)
			check(got)
		}
	}
	for _, l := range [][]api.State{ladder(300, true, 97), ladder(9, true, 97, 98), ladder(6001, false, 97, 98)} {
		got, _ := From(l, nil, 300)
		check(got)
		got, _ = From(l, slices.Repeat([]int{97}, 40), 300)
		check(got)
	}
}
