package trie

import (
	"cmp"
	"math"
	"slices"
	"testing"

	"spellwright/api"
	"spellwright/words"
)

// word is a text's signs.
func word(s string) []int {
	l := []int{}
	for _, r := range s {
		l = append(l, int(r))
	}
	return l
}

func wordsOf(texts ...string) [][]int {
	out := [][]int{}
	for _, s := range texts {
		out = append(out, word(s))
	}
	return out
}

func deep(l [][]int) [][]int {
	out := [][]int{}
	for _, w := range l {
		out = append(out, slices.Clone(w))
	}
	return out
}

func alikeWords(a, b [][]int) bool {
	return slices.EqualFunc(a, b, func(x, y []int) bool { return slices.Equal(x, y) })
}

// state is one that may be Final, with arcs of these signs and places, by turns.
func state(final bool, arcs ...int) api.State {
	s := api.State{Final: final}
	for i := 0; i < len(arcs); i += 2 {
		s.Arcs = append(s.Arcs, api.Arc{Sign: arcs[i], To: arcs[i+1]})
	}
	return s
}

func deepStates(l []api.State) []api.State {
	out := []api.State{}
	for _, s := range l {
		out = append(out, api.State{Final: s.Final, Arcs: slices.Clone(s.Arcs)})
	}
	return out
}

func alike(a, b []api.State) bool {
	return slices.EqualFunc(a, b, func(x, y api.State) bool { return x.Final == y.Final && slices.Equal(x.Arcs, y.Arcs) })
}

// lists are the lists of at most so many of these, the shorter ones first.
func lists[T any](of []T, long int) [][]T {
	out := [][]T{{}}
	begin := 0
	for range long {
		end := len(out)
		for _, l := range out[begin:end] {
			for _, x := range of {
				out = append(out, append(slices.Clone(l), x))
			}
		}
		begin = end
	}
	return out
}

// distinct are so many unlike words, that rise, of one sign and of more.
func distinct(n int) [][]int {
	out := [][]int{}
	for i := range n {
		w := []int{200 + i/7}
		if i%7 > 0 {
			w = append(w, 100+i%7)
		}
		out = append(out, w)
	}
	return out
}

// apart are so many words of so many signs, that rise and have nothing alike.
func apart(n, long int) [][]int {
	out := [][]int{}
	for i := range n {
		out = append(out, slices.Repeat([]int{1000 + i}, long))
	}
	return out
}

// forked are so many words of 20 signs, that rise and have the first ones alike.
func forked(n int) [][]int {
	out := [][]int{}
	for i := range n {
		out = append(out, append(slices.Repeat([]int{97}, 18), 98+i/26, 97+i%26))
	}
	return out
}

// nested are the beginnings of one word of 20 signs, but nothing.
func nested() [][]int {
	out := [][]int{}
	for long := 1; long <= 20; long++ {
		out = append(out, slices.Repeat([]int{98}, long))
	}
	return out
}

// mixed are 300 words of 1 to 20 of a few signs, which rise.
func mixed(seed uint64) [][]int {
	out := [][]int{}
	for len(out) < 300 {
		w := []int{}
		for {
			seed = seed*6364136223846793005 + 1442695040888963407
			w = append(w, []int{97, 98, 228, 8364, api.MaxRune}[seed>>33%5])
			if len(w) == 20 || seed>>40%9 == 0 {
				break
			}
		}
		if at, has := slices.BinarySearchFunc(out, w, slices.Compare); !has {
			out = slices.Insert(out, at, w)
		}
	}
	return out
}

// someWords are lists that an automaton can be made of.
func someWords() [][][]int {
	return [][][]int{
		{}, wordsOf("a"), wordsOf("abcdefghijklmnopqrst"), wordsOf("a", "ab"), wordsOf("a", "ab", "abc", "b"), wordsOf("ac", "bc"), wordsOf("ab", "ac", "b", "ba"),
		wordsOf("abc", "abd"), wordsOf("a", "aa", "aaa", "aaaa"), wordsOf("aaab", "aab", "ab", "b"), wordsOf("a#", "b"), wordsOf("\x00", "\r", "z", "ä", "€", "\uffff", "😀"),
		{slices.Repeat([]int{0}, 20), slices.Repeat([]int{97}, 20), slices.Repeat([]int{api.MaxRune}, 20)},
		{{0}, {0, 0}, {api.LowHalf - 1}, {api.HighHalf + 1}, {api.HighHalf + 1, 0}, {65535}, {65536}, {api.MaxRune, 0}, {api.MaxRune, api.MaxRune}},
		nested(), distinct(2), distinct(7), distinct(100), distinct(299), distinct(300), apart(300, 1), apart(300, 2), apart(2, 20), apart(300, 20), forked(2), forked(300), mixed(1), mixed(2),
	}
}

// goodSign says what the chapters say of a sign.
func goodSign(n int) bool {
	return n >= 0 && n < 55296 || n > 57343 && n <= 1114111
}

// slowCheck says what the chapter says of an automaton that may be.
func slowCheck(l []api.State) bool {
	for at, s := range l {
		for i, a := range s.Arcs {
			if !goodSign(a.Sign) || !(at < a.To && a.To < len(l)) {
				return false
			}
			for _, b := range s.Arcs[:i] {
				if b.Sign >= a.Sign {
					return false
				}
			}
		}
	}
	return 1 <= len(l) && len(l) <= 6001
}

// name is a beginning as a map's key.
func name(w []int) string {
	s := ""
	for _, n := range w {
		s += string(rune(n))
	}
	return s
}

// beginnings are what the words begin with, nothing among them, in order of their lengths, of one length in order.
func beginnings(l [][]int) [][]int {
	out := [][]int{{}}
	for _, w := range l {
		for long := 1; long <= len(w); long++ {
			out = append(out, w[:long])
		}
	}
	slices.SortFunc(out, func(a, b []int) int {
		return cmp.Or(cmp.Compare(len(a), len(b)), slices.Compare(a, b))
	})
	return slices.CompactFunc(out, func(a, b []int) bool { return slices.Equal(a, b) })
}

// slowMake says what the chapter says of words that rise, and fit.
func slowMake(l [][]int) []api.State {
	all := beginnings(l)
	places := map[string]int{}
	for at, u := range all {
		places[name(u)] = at
	}
	out := make([]api.State, len(all))
	for _, w := range l {
		out[places[name(w)]].Final = true
	}
	for at, u := range all {
		if len(u) > 0 {
			ahead := places[name(u[:len(u)-1])]
			out[ahead].Arcs = append(out[ahead].Arcs, api.Arc{Sign: u[len(u)-1], To: at})
		}
	}
	return out
}

// follow is where signs lead, by the arcs as they stand.
func follow(l []api.State, w []int) (int, bool) {
	at := 0
	for _, n := range w {
		i := slices.IndexFunc(l[at].Arcs, func(a api.Arc) bool { return a.Sign == n })
		if i < 0 {
			return 0, false
		}
		at = l[at].Arcs[i].To
	}
	return at, true
}

// lead is where signs lead, step by step.
func lead(l []api.State, w []int) (int, bool) {
	at, is := 0, true
	for _, n := range w {
		if at, is = Step(l, at, n); !is {
			return at, false
		}
	}
	return at, true
}

func checkCheck(t *testing.T, l []api.State, want bool) {
	t.Helper()
	if got := Check(l); got != want {
		t.Errorf("Check(%v) is %t", l, got)
	}
}

func checkStep(t *testing.T, l []api.State, from, sign, to int, want bool) {
	t.Helper()
	if got, is := Step(l, from, sign); got != to || is != want {
		t.Errorf("Step(%v, %d, %d) is %d, %t, want %d, %t", l, from, sign, got, is, to, want)
	}
}

func checkMake(t *testing.T, l [][]int, want ...api.State) {
	t.Helper()
	if got, err := Make(l); err != api.OK || !alike(got, want) {
		t.Errorf("Make(%v) is %v, %d, want %v", l, got, err, want)
	}
}

// checkUnmade holds an error of Make, and the empty answer beside it, against what is to be told.
func checkUnmade(t *testing.T, l [][]int, fault api.Errno) {
	t.Helper()
	if got, err := Make(l); err != fault || len(got) > 0 {
		t.Errorf("Make(%v) is %v, %d, want %d", l, got, err, fault)
	}
}

// P10.1: Check

func TestCheckOfHowManyStates(t *testing.T) {
	for _, l := range [][]api.State{nil, {}, make([]api.State, 2)[:0]} {
		checkCheck(t, l, false)
	}
	for _, n := range []int{1, 2, 3, 300, 301, 5999, 6000, 6001, 6002, 6003, 12002, 65536, 1000000} {
		l := make([]api.State, n)
		if Check(l) != (n <= 6001) {
			t.Errorf("Check of %d states without arcs is %t", n, Check(l))
		}
		for at := range n - 1 {
			l[at] = state(at%3 == 0, 97, at+1)
		}
		if Check(l) != (n <= 6001) {
			t.Errorf("Check of %d states in a row is %t", n, Check(l))
		}
	}
}

func TestCheckOfStatesWithoutArcs(t *testing.T) {
	for _, l := range [][]api.State{
		{{}}, {{Final: true}}, {{Arcs: []api.Arc{}}}, {{}, {}}, {{}, {Final: true}}, {{Final: true}, {}, {Final: true}},
		{state(false, 97, 2), state(true), state(true)}, {state(false), state(false, 97, 2), state(false)},
	} {
		checkCheck(t, l, true)
	}
}

func TestCheckOfRisingSigns(t *testing.T) {
	good := [][]int{{97, 98}, {97, 99, 228}, {0, 1, 2, 3}, {0, api.MaxRune}, {api.LowHalf - 1, api.HighHalf + 1}, {9, 10, 32, 35}, {0, 97, 8364, 65536, api.MaxRune}}
	bad := [][]int{{97, 97}, {0, 0}, {98, 97}, {1, 0}, {97, 98, 98}, {97, 97, 98}, {97, 99, 98}, {98, 97, 99}, {97, 98, 97}, {97, 98, 99, 97}, {api.MaxRune, api.MaxRune}, {api.MaxRune, 0}, {97, 98, 0}}
	check := func(signs []int, want bool) {
		var arcs, others []int
		for i, n := range signs {
			arcs = append(arcs, n, 3)
			others = append(others, n, 4-i%2)
		}
		for _, l := range [][]int{arcs, others} {
			// With them at the first state, behind it, and at both.
			checkCheck(t, []api.State{state(false, l...), {}, {}, {}, {}}, want)
			checkCheck(t, []api.State{{}, {}, state(true, l...), {}, {}}, want)
			checkCheck(t, []api.State{state(false, 97, 1, 98, 1), state(true, l...), {}, {}, {}}, want)
			checkCheck(t, []api.State{state(false, l...), state(true, 97, 2), state(true, l...), {}, {}}, want)
		}
	}
	for _, l := range good {
		check(l, true)
	}
	for _, l := range bad {
		check(l, false)
	}
	many := api.State{}
	for n := range 5000 {
		many.Arcs = append(many.Arcs, api.Arc{Sign: n * 7, To: 1})
	}
	checkCheck(t, []api.State{many, {}}, true)
	for _, at := range []int{0, 1, 2500, 4998} {
		again := deepStates([]api.State{many, {}})
		again[0].Arcs[at+1].Sign = again[0].Arcs[at].Sign
		checkCheck(t, again, false)
		turned := deepStates([]api.State{many, {}})
		turned[0].Arcs[at], turned[0].Arcs[at+1] = turned[0].Arcs[at+1], turned[0].Arcs[at]
		checkCheck(t, turned, false)
	}
}

// The signs of one state's arcs say nothing of another one's.
func TestCheckOfEachStateByItself(t *testing.T) {
	checkCheck(t, []api.State{state(false, 98, 1, 99, 2), state(false, 97, 2, 99, 2), {}}, true)
	checkCheck(t, []api.State{state(false, 97, 1), state(false, 97, 2), state(false, 97, 3), {}}, true)
	checkCheck(t, []api.State{state(false, api.MaxRune, 1), state(false, 0, 2), {}}, true)
}

// edges are numbers at which it changes whether they are signs, and some beside them.
func edges() []int {
	return []int{
		math.MinInt, math.MinInt32, -97, -2, -1, 0, 1, 9, 10, 32, 35, 97, 127, 128, 2047, 2048, 55294, 55295, 55296, 55297, 56000, 57342, 57343, 57344, 57345,
		65535, 65536, 1114110, 1114111, 1114112, 1114113, 1 << 21, math.MaxInt32, 1 << 32, 1<<32 + 97, math.MaxInt - 1, math.MaxInt,
	}
}

func TestCheckOfEachSign(t *testing.T) {
	for _, n := range edges() {
		checkCheck(t, []api.State{state(false, n, 1), {}}, goodSign(n))
		checkCheck(t, []api.State{{}, {}, state(true, n, 3), {}}, goodSign(n))
		checkCheck(t, []api.State{state(false, n, 1, 60000, 1), {}}, goodSign(n) && n < 60000)
		checkCheck(t, []api.State{state(false, 50, 1, n, 1), {}}, goodSign(n) && n > 50)
		checkCheck(t, []api.State{state(false, 50, 1, n, 1, 60000, 1), {}}, goodSign(n) && n > 50 && n < 60000)
		for _, m := range edges() {
			checkCheck(t, []api.State{state(false, n, 1, m, 1), {}}, goodSign(n) && goodSign(m) && n < m)
		}
	}
	for n := -10; n < api.MaxRune+10; n++ {
		checkCheck(t, []api.State{state(false, n, 1), {}}, goodSign(n))
	}
}

func TestCheckOfWhereArcsLead(t *testing.T) {
	far := []int{math.MinInt, math.MinInt32, -1000, 1000, 6000, 6001, math.MaxInt32, 1 << 32, 1<<32 + 2, math.MaxInt}
	for many := 1; many <= 5; many++ {
		for at := range many {
			tos := slices.Clone(far)
			for to := -many - 1; to <= 2*many+1; to++ {
				tos = append(tos, to)
			}
			for _, to := range tos {
				want := to > at && to < many
				l := make([]api.State, many)
				l[at] = state(false, 97, to)
				checkCheck(t, l, want)
				l[at] = state(false, 97, to, 98, to)
				checkCheck(t, l, want)
				// Beside arcs that may be, first, among them and last.
				for i := range 3 {
					arcs := []int{97, many - 1, 98, many - 1, 99, many - 1}
					arcs[2*i+1] = to
					l[at] = state(true, arcs...)
					checkCheck(t, l, want && at < many-1)
				}
			}
		}
	}
}

func TestCheckOfArcsAtTheLastOfAllStates(t *testing.T) {
	for _, at := range []int{0, 1, 3000, 5999, 6000} {
		for _, to := range []int{-1, 0, 1, 2, 3000, 3001, 5998, 5999, 6000, 6001, 6002} {
			l := make([]api.State, 6001)
			l[at] = state(false, 97, to)
			if want := to > at && to <= 6000; Check(l) != want {
				t.Errorf("Check of an arc from %d to %d is %t", at, to, Check(l))
			}
		}
	}
}

// Automata that no word's beginnings make: places that nothing leads to, that many lead to, that lead nowhere.
func TestCheckOfOtherAutomata(t *testing.T) {
	for _, l := range [][]api.State{
		{state(false, 97, 1, 98, 1), state(false, 99, 2), state(true)},
		{state(true, 97, 3), {}, {}, state(true)},
		{state(false, 97, 1), state(false, 97, 2), state(false)},
		{state(true, 97, 3, 98, 2, 99, 1), state(true, 97, 2), state(true, 98, 3), state(true)},
	} {
		checkCheck(t, l, true)
	}
}

// arcLists are the lists of at most so many arcs of these signs to these places.
func arcLists(signs, tos []int, long int) [][]api.Arc {
	var arcs []api.Arc
	for _, n := range signs {
		for _, to := range tos {
			arcs = append(arcs, api.Arc{Sign: n, To: to})
		}
	}
	return lists(arcs, long)
}

func TestCheckAndStepOfAllSmallAutomata(t *testing.T) {
	two := arcLists([]int{-1, 97, 98, api.LowHalf}, []int{-1, 0, 1, 2}, 2)
	three := arcLists([]int{97, 98}, []int{0, 1, 2, 3}, 2)
	may := 0
	try := func(l []api.State) {
		if Check(l) != slowCheck(l) {
			t.Fatalf("Check(%v) is %t", l, Check(l))
		}
		if slowCheck(l) {
			may++
		}
	}
	for _, a := range two {
		try([]api.State{{Arcs: a}})
		for _, b := range two {
			try([]api.State{{Arcs: a}, {Arcs: b}})
		}
	}
	for _, a := range three {
		for _, b := range three {
			for _, c := range three {
				try([]api.State{{Arcs: a}, {Arcs: b}, {Arcs: c}})
			}
		}
	}
	if may < 30 {
		t.Errorf("only %d may be", may)
	}
	for _, a := range two {
		checkSlowStep(t, []api.State{{Arcs: a}, {Arcs: two[len(two)-1]}})
	}
}

// checkSlowStep holds the steps from each state, by each sign, against what the chapter says.
func checkSlowStep(t *testing.T, l []api.State) {
	t.Helper()
	for from := -2; from <= len(l)+1; from++ {
		for _, sign := range []int{-2, -1, 0, 96, 97, 98, 99, api.LowHalf} {
			to, is := 0, false
			if from >= 0 && from < len(l) {
				for _, a := range slices.Backward(l[from].Arcs) {
					if a.Sign == sign {
						to, is = a.To, true
					}
				}
			}
			checkStep(t, l, from, sign, to, is)
		}
	}
}

// P10.1: Step

func TestStep(t *testing.T) {
	l := []api.State{state(false, 97, 1, 98, 3), state(true, 98, 2, 99, 3), state(true, 0, 3), state(true)}
	checkStep(t, l, 0, 97, 1, true)
	checkStep(t, l, 0, 98, 3, true)
	checkStep(t, l, 1, 98, 2, true)
	checkStep(t, l, 1, 99, 3, true)
	checkStep(t, l, 2, 0, 3, true)
	for _, x := range [][2]int{{0, 96}, {0, 99}, {0, 0}, {0, -1}, {1, 97}, {1, 100}, {1, 0}, {2, 97}, {2, 1}, {2, -1}, {3, 0}, {3, 97}, {3, -1}} {
		checkStep(t, l, x[0], x[1], 0, false)
	}
	for _, sign := range edges() {
		if sign != 0 {
			checkStep(t, l, 2, sign, 0, false)
		}
		checkStep(t, l, 3, sign, 0, false)
	}
}

func TestStepFromNoState(t *testing.T) {
	l := []api.State{state(false, 97, 2), state(false, 97, 2), state(true, 97, 5)}
	checkStep(t, l, 2, 97, 5, true)
	for _, from := range []int{math.MinInt, math.MinInt32, -3, -2, -1, 3, 4, 5, 100, 6001, math.MaxInt32, 1 << 32, 1<<32 + 1, math.MaxInt} {
		checkStep(t, l, from, 97, 0, false)
		checkStep(t, l, from, 0, 0, false)
		checkStep(t, nil, from, 97, 0, false)
		checkStep(t, []api.State{}, from, 97, 0, false)
		// What stands in the spare room is no state.
		checkStep(t, l[:2], max(from, 2), 97, 0, false)
	}
	checkStep(t, nil, 0, 97, 0, false)
	checkStep(t, []api.State{{}}, 0, 0, 0, false)
	checkStep(t, l[:1], 1, 97, 0, false)
	checkStep(t, l[:1], 0, 97, 2, true)
}

// Of states made by hand the first arc is told, whatever it is.
func TestStepOfStatesThatMayNotBe(t *testing.T) {
	l := []api.State{
		state(false, 97, 2, 97, 1, 98, 1),
		state(false, 99, 3, 97, 2, 98, 1, 97, 0),
		state(false, 98, 2, 98, 2, 97, -5, 98, 7, 97, 3),
		state(false, -1, 4, api.LowHalf, -9, math.MaxInt, math.MinInt, 0, math.MaxInt, math.MinInt, 0),
	}
	for _, x := range []struct{ from, sign, to int }{
		{0, 97, 2}, {0, 98, 1}, {1, 99, 3}, {1, 97, 2}, {1, 98, 1}, {2, 98, 2}, {2, 97, -5},
		{3, -1, 4}, {3, api.LowHalf, -9}, {3, math.MaxInt, math.MinInt}, {3, 0, math.MaxInt}, {3, math.MinInt, 0},
	} {
		checkStep(t, l, x.from, x.sign, x.to, true)
	}
	for _, x := range [][2]int{{0, 96}, {0, 99}, {1, 96}, {1, 100}, {2, 99}, {2, 96}, {3, 1}, {3, -2}, {3, 97}} {
		checkStep(t, l, x[0], x[1], 0, false)
	}
	checkSlowStep(t, l)
	// What stands in an arcs' spare room is no arc.
	short := []api.State{{Arcs: l[1].Arcs[:1]}}
	checkStep(t, short, 0, 99, 3, true)
	checkStep(t, short, 0, 97, 0, false)
}

func TestStepOfManyStatesAndArcs(t *testing.T) {
	l := make([]api.State, 100000)
	for at := range l {
		l[at] = state(false, 97, at+1, 98, at)
	}
	for _, from := range []int{0, 1, 6000, 6001, 6002, 50000, 99999} {
		checkStep(t, l, from, 97, from+1, true)
		checkStep(t, l, from, 98, from, true)
		checkStep(t, l, from, 99, 0, false)
	}
	if to, is := Step(l, 100000, 97); to != 0 || is {
		t.Errorf("from just past the last one: %d, %t", to, is)
	}
	wide := []api.State{{}, {}}
	for n := range 100000 {
		wide[0].Arcs = append(wide[0].Arcs, api.Arc{Sign: 2 * n, To: n})
	}
	for _, n := range []int{0, 1, 2, 4711, 99998, 99999} {
		if to, is := Step(wide, 0, 2*n); to != n || !is {
			t.Errorf("by %d: %d, %t", 2*n, to, is)
		}
		if to, is := Step(wide, 0, 2*n+1); to != 0 || is {
			t.Errorf("by %d: %d, %t", 2*n+1, to, is)
		}
	}
}

// P10.2

func TestMakeOfNoWords(t *testing.T) {
	for _, l := range [][][]int{nil, {}, wordsOf("ab")[:0]} {
		checkMake(t, l, state(false))
	}
}

func TestMakeOfOneWord(t *testing.T) {
	for _, n := range []int{0, 1, 97, 228, 8364, api.LowHalf - 1, api.HighHalf + 1, api.MaxRune} {
		checkMake(t, [][]int{{n}}, state(false, n, 1), state(true))
		checkMake(t, [][]int{{97, n}}, state(false, 97, 1), state(false, n, 2), state(true))
		for long := 1; long <= 20; long++ {
			var want []api.State
			for at := range long {
				want = append(want, state(false, n, at+1))
			}
			checkMake(t, [][]int{slices.Repeat([]int{n}, long)}, append(want, state(true))...)
		}
	}
	checkMake(t, wordsOf("a#b"), state(false, 97, 1), state(false, 35, 2), state(false, 98, 3), state(true))
}

func TestMakeOfSeveralWords(t *testing.T) {
	checkMake(t, wordsOf("a", "ab"), state(false, 97, 1), state(true, 98, 2), state(true))
	checkMake(t, wordsOf("a", "b"), state(false, 97, 1, 98, 2), state(true), state(true))
	checkMake(t, wordsOf("ac", "bc"), state(false, 97, 1, 98, 2), state(false, 99, 3), state(false, 99, 4), state(true), state(true))
	checkMake(t, wordsOf("ab", "abc", "b"), state(false, 97, 1, 98, 2), state(false, 98, 3), state(true), state(true, 99, 4), state(true))
	checkMake(t, wordsOf("ab", "ac", "ad"), state(false, 97, 1), state(false, 98, 2, 99, 3, 100, 4), state(true), state(true), state(true))
	checkMake(t, wordsOf("abc", "b", "bb", "ca"), state(false, 97, 1, 98, 2, 99, 3), state(false, 98, 4), state(true, 98, 5), state(false, 97, 6), state(false, 99, 7), state(true), state(true), state(true))
	checkMake(t, wordsOf("a", "aa", "aaa"), state(false, 97, 1), state(true, 97, 2), state(true, 97, 3), state(true))
	checkMake(t, wordsOf("aab", "ab", "b"), state(false, 97, 1, 98, 2), state(false, 97, 3, 98, 4), state(true), state(false, 98, 5), state(true), state(true))
	// Signs rise as numbers do, not as other writings of them.
	checkMake(t, wordsOf("z", "ä", "\uffff", "😀"), state(false, 122, 1, 228, 2, 65535, 3, 128512, 4), state(true), state(true), state(true), state(true))
}

func TestMakeAsTheChapterSays(t *testing.T) {
	for _, l := range someWords() {
		checkMake(t, l, slowMake(l)...)
	}
	for n := range 301 {
		checkMake(t, distinct(n), slowMake(distinct(n))...)
	}
}

func TestMakeOfAsManyStatesAsMayBe(t *testing.T) {
	for _, n := range []int{1, 2, 299, 300} {
		for _, long := range []int{1, 2, 19, 20} {
			l, err := Make(apart(n, long))
			if err != api.OK || len(l) != 1+n*long || !Check(l) {
				t.Errorf("%d words of %d signs: %d states, %d, %t", n, long, len(l), err, Check(l))
			}
		}
	}
	l, _ := Make(apart(300, 20))
	if len(l) != api.MaxStates || len(l[0].Arcs) != 300 || l[5700].Final || !l[5701].Final || !l[6000].Final || len(l[6000].Arcs) > 0 {
		t.Errorf("%d states, %v ..", len(l), l[0])
	}
}

// subsets are the lists of at most so many of these words, each once, as they rise.
func subsets(of [][]int, many int) [][][]int {
	out := [][][]int{{}}
	for _, w := range of {
		for _, l := range out {
			if len(l) < many {
				out = append(out, append(slices.Clone(l), w))
			}
		}
	}
	return out
}

func TestMakeOfAllShortWords(t *testing.T) {
	of := lists([]int{97, 98}, 3)[1:]
	slices.SortFunc(of, slices.Compare)
	for _, l := range subsets(of, len(of)) {
		checkMake(t, l, slowMake(l)...)
	}
	of = lists([]int{0, 228, api.MaxRune}, 2)[1:]
	slices.SortFunc(of, slices.Compare)
	for _, l := range subsets(of, 4) {
		checkMake(t, l, slowMake(l)...)
	}
}

// misfits are words that do not fit.
func misfits() [][]int {
	return [][]int{
		nil, {}, {9}, {10}, {32}, {35}, word("#a"), word("a b"), word("ab\n"), word("\tab"), word("abcdefghijklmnopqrstu"),
		{-1}, {97, api.LowHalf}, {api.HighHalf, 97}, {97, api.MaxRune + 1, 97}, {1<<32 + 97}, {math.MinInt}, {math.MaxInt}, make([]int, 1000), make([]int, 100000),
	}
}

func TestMakeOfWordsThatDoNotFit(t *testing.T) {
	for _, bad := range misfits() {
		checkUnmade(t, [][]int{bad}, api.ErrLong)
		for _, n := range []int{1, 2, 20, 299} {
			for _, at := range []int{0, n / 2, n} {
				checkUnmade(t, slices.Insert(distinct(n), at, bad), api.ErrLong)
			}
		}
		l := append(distinct(5), bad)
		slices.SortFunc(l, slices.Compare)
		checkUnmade(t, l, api.ErrLong)
		checkUnmade(t, [][]int{bad, bad}, api.ErrLong)
		// With too many words that is what is told.
		for _, at := range []int{0, 150, 300} {
			checkUnmade(t, slices.Insert(distinct(300), at, bad), api.ErrMany)
		}
		checkUnmade(t, slices.Repeat([][]int{bad}, 300), api.ErrLong)
		checkUnmade(t, slices.Repeat([][]int{bad}, 301), api.ErrMany)
	}
}

func TestMakeOfWordsThatDoNotRise(t *testing.T) {
	for _, l := range [][]string{{"b", "a"}, {"a", "a"}, {"ab", "a"}, {"a", "b", "b"}, {"a", "c", "b"}, {"b", "a", "c"}, {"a", "b", "a"}, {"ä", "z"}, {"😀", "\uffff"}, {"abcdefghijklmnopqrst", "abcdefghijklmnopqrst"}} {
		checkUnmade(t, wordsOf(l...), api.ErrLong)
	}
	for _, n := range []int{2, 3, 50, 300} {
		back := distinct(n)
		slices.Reverse(back)
		checkUnmade(t, back, api.ErrLong)
		for at := range n - 1 {
			l := distinct(n)
			l[at], l[at+1] = l[at+1], l[at]
			checkUnmade(t, l, api.ErrLong)
			again := distinct(n)
			again[at+1] = slices.Clone(again[at])
			checkUnmade(t, again, api.ErrLong)
			again[at+1] = again[at]
			checkUnmade(t, again, api.ErrLong)
		}
	}
	back := distinct(301)
	slices.Reverse(back)
	checkUnmade(t, back, api.ErrMany)
	checkUnmade(t, slices.Repeat(wordsOf("a"), 300), api.ErrLong)
	checkUnmade(t, slices.Repeat(wordsOf("a"), 301), api.ErrMany)
}

func TestMakeOfTooManyWords(t *testing.T) {
	for _, n := range []int{301, 302, 310, 600, 6001, 6002, 100000} {
		checkUnmade(t, distinct(n), api.ErrMany)
		checkUnmade(t, make([][]int, n), api.ErrMany)
		checkMake(t, distinct(n)[n-300:], slowMake(distinct(n)[n-300:])...)
	}
	checkUnmade(t, apart(301, 20), api.ErrMany)
	checkUnmade(t, apart(301, 21), api.ErrMany)
	checkUnmade(t, apart(300, 21), api.ErrLong)
	checkUnmade(t, append(apart(300, 20), []int{2000}), api.ErrMany)
}

// What is wrong is words.Write's error, whatever the words are.
func TestMakeTellsTheErrorOfWriting(t *testing.T) {
	of := append(wordsOf("a", "ab", "b", "ä", "a#", "", "#", "a b", "\r"), []int{-1}, []int{97, api.LowHalf})
	for _, l := range lists(of, 4) {
		_, fault := words.Write(l)
		if fault != api.OK {
			checkUnmade(t, l, fault)
			continue
		}
		checkMake(t, l, slowMake(l)...)
	}
}

// P10.3

func TestWhatIsMadeMayBe(t *testing.T) {
	for _, l := range someWords() {
		made, err := Make(l)
		if err != api.OK || !Check(made) || !slowCheck(made) {
			t.Errorf("Make(%v) is %v, %d", l, made, err)
		}
	}
}

// The beginnings lead one to each place, in order of their lengths and of one length in order, and just the words to one that is Final.
func TestBeginningsLeadEachToAPlaceOfItsOwn(t *testing.T) {
	for _, l := range someWords() {
		made, _ := Make(l)
		all := beginnings(l)
		if len(made) != len(all) {
			t.Errorf("Make(%v) has %d states, of %d beginnings", l, len(made), len(all))
		}
		arcs := 0
		for want, u := range all {
			at, is := lead(made, u)
			byHand, leads := follow(made, u)
			if at != want || !is || byHand != want || !leads {
				t.Fatalf("of %v: %v leads to %d, %t, want %d", l, u, at, is, want)
			}
			_, isWord := slices.BinarySearchFunc(l, u, slices.Compare)
			if made[at].Final != isWord {
				t.Errorf("of %v: Final of %v is %t", l, u, made[at].Final)
			}
			arcs += len(made[at].Arcs)
		}
		// Each place but the start has one arc that leads there.
		if arcs != len(all)-1 {
			t.Errorf("Make(%v) has %d arcs, and %d states", l, arcs, len(made))
		}
	}
}

func TestNoOthersLeadAnywhere(t *testing.T) {
	for _, l := range someWords() {
		made, _ := Make(l)
		is := map[string]bool{}
		for _, u := range beginnings(l) {
			is[name(u)] = true
		}
		for _, u := range beginnings(l) {
			for _, n := range []int{0, 96, 97, 98, 99, 228, 8364, api.MaxRune} {
				longer := append(slices.Clone(u), n)
				if _, leads := lead(made, longer); leads != is[name(longer)] {
					t.Fatalf("of %v: %v leads somewhere: %t", l, longer, leads)
				}
			}
			for _, n := range []int{-1, api.LowHalf, api.HighHalf, api.MaxRune + 1, 1<<32 + 97} {
				if at, leads := lead(made, append(slices.Clone(u), n)); at != 0 || leads {
					t.Fatalf("of %v: %v and %d lead to %d", l, u, n, at)
				}
			}
		}
	}
}

func TestAllShortListsLeadJustIfTheyBeginAWord(t *testing.T) {
	of := lists([]int{97, 98}, 3)[1:]
	slices.SortFunc(of, slices.Compare)
	asked := lists([]int{97, 98, 99}, 4)
	for _, l := range subsets(of, 3) {
		made, _ := Make(l)
		all := beginnings(l)
		for _, u := range asked {
			at, leads := lead(made, u)
			want := slices.IndexFunc(all, func(x []int) bool { return slices.Equal(x, u) })
			if leads != (want >= 0) || at != max(want, 0) {
				t.Fatalf("of %v: %v leads to %d, %t, want %d", l, u, at, leads, want)
			}
			isWord := slices.ContainsFunc(l, func(x []int) bool { return slices.Equal(x, u) })
			if leads && made[at].Final != isWord {
				t.Fatalf("of %v: Final of %v is %t", l, u, made[at].Final)
			}
		}
	}
}

// R4

func TestTheSameEachTime(t *testing.T) {
	for _, l := range someWords() {
		want := slowMake(l)
		for range 10 {
			roomy := make([][]int, 0, len(l)+7)
			for _, w := range l {
				roomy = append(roomy, append(make([]int, 0, 30), w...))
			}
			checkMake(t, l, want...)
			checkMake(t, roomy, want...)
		}
	}
}

// R3

// Words that lie over each other in one row, in a list with spare room: neither is changed, in order or not.
func TestMakeChangesNothing(t *testing.T) {
	row := []int{97, 97, 97, 98, 98, 99, 97, -1, 35}
	l := [][]int{row[0:1], row[0:2], row[0:3], row[1:4], row[3:4], row[3:5], row[5:6], row[5:7], row[0:1], row[7:8], row[8:9]}
	for n := range len(l) + 1 {
		kept, signs := deep(l), slices.Clone(row)
		if n <= 8 {
			checkMake(t, l[:n], slowMake(l[:n])...)
			checkMake(t, l[:n], slowMake(l[:n])...)
		} else {
			checkUnmade(t, l[:n], api.ErrLong)
		}
		if !alikeWords(l, kept) || !slices.Equal(row, signs) {
			t.Errorf("%v of %v became %v of %v", kept, signs, l, row)
		}
	}
	if &l[1][0] != &row[0] || &l[4][0] != &row[3] {
		t.Error("the words are others")
	}
	back := wordsOf("c", "a", "b", "a")
	kept := deep(back)
	checkUnmade(t, back, api.ErrLong)
	if !alikeWords(back, kept) {
		t.Errorf("%v became %v", kept, back)
	}
}

func TestCheckAndStepChangeNothing(t *testing.T) {
	arcs := []api.Arc{{Sign: 97, To: 1}, {Sign: 98, To: 2}, {Sign: 97, To: 0}, {Sign: -1, To: 9}, {Sign: 99, To: 2}}
	l := []api.State{{Arcs: arcs[:2]}, {Final: true, Arcs: arcs[1:2]}, {Arcs: arcs[2:2]}, {Arcs: arcs[2:4]}, {Arcs: arcs}}
	kept, signs := deepStates(l), slices.Clone(arcs)
	for n := range len(l) + 1 {
		checkCheck(t, l[:n], n == 3)
		checkSlowStep(t, l[:n])
	}
	if !alike(l, kept) || !slices.Equal(arcs, signs) || &l[1].Arcs[0] != &arcs[1] {
		t.Errorf("%v of %v became %v of %v", kept, signs, l, arcs)
	}
}

// What was made is not the words' memory, nor what is made next.
func TestMakeKeepsNothing(t *testing.T) {
	for _, l := range someWords() {
		want := slowMake(l)
		first, _ := Make(l)
		x := deep(l)
		second, _ := Make(x)
		kept := deep(l)
		for i := range first[:cap(first)] {
			s := &first[:cap(first)][i]
			for j := range s.Arcs[:cap(s.Arcs)] {
				s.Arcs[:cap(s.Arcs)][j] = api.Arc{Sign: -7, To: -7}
			}
			*s = api.State{Final: true}
		}
		for i, w := range x {
			for j := range w {
				w[j] = 7
			}
			x[i] = nil
		}
		if !alike(second, want) || !alikeWords(l, kept) {
			t.Errorf("%v of %v became %v of %v", want, kept, second, l)
		}
		checkMake(t, l, want...)
	}
}

// Each state's arcs, changed up to their spare room's end, and with more put behind, change no others.
func TestArcsShareNoMemory(t *testing.T) {
	for _, l := range someWords() {
		made, _ := Make(l)
		want := slowMake(l)
		for i := range made {
			room := made[i].Arcs[:cap(made[i].Arcs)]
			for j := range room {
				room[j] = api.Arc{Sign: -5, To: -5 - i}
			}
			made[i].Arcs = append(made[i].Arcs, api.Arc{Sign: -6, To: -5 - i})
		}
		for i, s := range made {
			if len(s.Arcs) != len(want[i].Arcs)+1 || s.Final != want[i].Final {
				t.Fatalf("of %v: state %d became %v", l, i, s)
			}
			for _, a := range s.Arcs {
				if a.To != -5-i {
					t.Fatalf("of %v: state %d became %v", l, i, s)
				}
			}
		}
	}
}
