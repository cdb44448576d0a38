package dawg

import (
	"cmp"
	"math"
	"slices"
	"strings"
	"testing"

	"spellwright/api"
	"spellwright/trie"
)

// word is a text's signs.
func word(s string) []int {
	l := []int{}
	for _, r := range s {
		l = append(l, int(r))
	}
	return l
}

func wordsOf(texts ...string) [][]int {
	out := [][]int{}
	for _, s := range texts {
		out = append(out, word(s))
	}
	return out
}

func deep(l [][]int) [][]int {
	out := [][]int{}
	for _, w := range l {
		out = append(out, slices.Clone(w))
	}
	return out
}

func alikeWords(a, b [][]int) bool {
	return slices.EqualFunc(a, b, func(x, y []int) bool { return slices.Equal(x, y) })
}

// state is one that may be Final, with arcs of these signs and places, by turns.
func state(final bool, arcs ...int) api.State {
	s := api.State{Final: final}
	for i := 0; i < len(arcs); i += 2 {
		s.Arcs = append(s.Arcs, api.Arc{Sign: arcs[i], To: arcs[i+1]})
	}
	return s
}

func deepStates(l []api.State) []api.State {
	out := []api.State{}
	for _, s := range l {
		out = append(out, api.State{Final: s.Final, Arcs: slices.Clone(s.Arcs)})
	}
	return out
}

func alikeState(x, y api.State) bool {
	return x.Final == y.Final && slices.Equal(x.Arcs, y.Arcs)
}

func alike(a, b []api.State) bool {
	return slices.EqualFunc(a, b, alikeState)
}

// lists are the lists of at most so many of these, the shorter ones first.
func lists[T any](of []T, long int) [][]T {
	out := [][]T{{}}
	begin := 0
	for range long {
		end := len(out)
		for _, l := range out[begin:end] {
			for _, x := range of {
				out = append(out, append(slices.Clone(l), x))
			}
		}
		begin = end
	}
	return out
}

// subsets are the lists of at most so many of these words, each once, as they rise.
func subsets(of [][]int, many int) [][][]int {
	out := [][][]int{{}}
	for _, w := range of {
		for _, l := range out {
			if len(l) < many {
				out = append(out, append(slices.Clone(l), w))
			}
		}
	}
	return out
}

// rising are the words, each once, so that they rise.
func rising(l [][]int) [][]int {
	out := deep(l)
	slices.SortFunc(out, slices.Compare)
	return slices.CompactFunc(out, func(a, b []int) bool { return slices.Equal(a, b) })
}

// distinct are so many unlike words, that rise, of one sign and of more.
func distinct(n int) [][]int {
	out := [][]int{}
	for i := range n {
		w := []int{200 + i/7}
		if i%7 > 0 {
			w = append(w, 100+i%7)
		}
		out = append(out, w)
	}
	return out
}

// apart are so many words of so many signs, that rise and have nothing alike.
func apart(n, long int) [][]int {
	out := [][]int{}
	for i := range n {
		out = append(out, slices.Repeat([]int{1000 + i}, long))
	}
	return out
}

// endAlike are so many words of so many signs, that rise and are unlike in the first one alone.
func endAlike(n, long int) [][]int {
	out := [][]int{}
	for i := range n {
		out = append(out, append([]int{1000 + i}, slices.Repeat([]int{97}, long-1)...))
	}
	return out
}

// forked are so many words of 20 signs, that rise and have the first ones alike.
func forked(n int) [][]int {
	out := [][]int{}
	for i := range n {
		out = append(out, append(slices.Repeat([]int{97}, 18), 98+i/26, 97+i%26))
	}
	return out
}

// nested are the beginnings of one word of 20 signs, but nothing.
func nested() [][]int {
	out := [][]int{}
	for long := 1; long <= 20; long++ {
		out = append(out, slices.Repeat([]int{98}, long))
	}
	return out
}

// nestedApart are the same of one word whose signs are unlike, and do not rise.
func nestedApart() [][]int {
	out := [][]int{}
	w := []int{}
	for i := range 20 {
		w = append(slices.Clone(w), 97+i*7%20)
		out = append(out, w)
	}
	return out
}

// crossed are beginnings with endings, each with each: all beginnings of one length are alike.
func crossed(begins, ends []string) [][]int {
	out := [][]int{}
	for _, b := range begins {
		for _, e := range ends {
			out = append(out, word(b+e))
		}
	}
	return rising(out)
}

// dice are numbers that look like any, the same each time.
type dice uint64

func (d *dice) below(n int) int {
	*d = *d*6364136223846793005 + 1442695040888963407
	return int(uint64(*d) >> 33 % uint64(n))
}

// mixed are 300 words of 1 to 20 of a few signs, which rise.
func mixed(seed dice) [][]int {
	out := [][]int{}
	for len(out) < 300 {
		w := []int{}
		for {
			w = append(w, []int{97, 98, 228, 8364, api.MaxRune}[seed.below(5)])
			if len(w) == 20 || seed.below(9) == 0 {
				break
			}
		}
		if at, has := slices.BinarySearchFunc(out, w, slices.Compare); !has {
			out = slices.Insert(out, at, w)
		}
	}
	return out
}

// pieced are words put together of a few beginnings and a few endings, so that many beginnings are alike, of unlike lengths.
func pieced(seed dice) [][]int {
	piece := func(long int) string {
		s := ""
		for range 1 + seed.below(long) {
			s += string(rune('a' + seed.below(4)))
		}
		return s
	}
	var begins, ends []string
	for range 1 + seed.below(5) {
		begins = append(begins, piece(4))
		ends = append(ends, piece(4))
	}
	l := [][]int{}
	for range 1 + seed.below(4) {
		some := begins[seed.below(len(begins)):]
		l = append(l, crossed(some, ends[seed.below(len(ends)):])...)
	}
	for range seed.below(3) {
		l = append(l, word(piece(4)))
	}
	return rising(l)
}

// someWords are lists that an automaton can be made of.
func someWords() [][][]int {
	out := [][][]int{
		{}, wordsOf("a"), wordsOf("abcdefghijklmnopqrst"), wordsOf("a", "ab"), wordsOf("a", "ab", "abc", "b"), wordsOf("ac", "bc"), wordsOf("ab", "ac", "b", "ba"),
		wordsOf("abc", "abd"), wordsOf("a", "aa", "aaa", "aaaa"), wordsOf("aaab", "aab", "ab", "b"), wordsOf("a#", "b"), wordsOf("\x00", "\r", "z", "ä", "€", "\uffff", "😀"),
		wordsOf("a", "ac", "bc"), wordsOf("ax", "by", "yyy", "zzx"), wordsOf("adx", "by", "cx", "eey"), wordsOf("tap", "taps", "top", "tops"), wordsOf("city", "pity", "ty", "y"),
		{slices.Repeat([]int{0}, 20), slices.Repeat([]int{97}, 20), slices.Repeat([]int{api.MaxRune}, 20)},
		{{0}, {0, 0}, {api.LowHalf - 1}, {api.HighHalf + 1}, {api.HighHalf + 1, 0}, {65533}, {65535}, {65536}, {api.MaxRune, 0}, {api.MaxRune, api.MaxRune}},
		nested(), nestedApart(), distinct(2), distinct(7), distinct(100), distinct(299), distinct(300),
		apart(300, 1), apart(300, 2), apart(2, 20), apart(300, 20), endAlike(2, 20), endAlike(300, 2), endAlike(300, 20), forked(2), forked(300), mixed(1), mixed(2),
		crossed([]string{"a", "bb", "ccc", "cdd"}, []string{"", "x", "xy", "yx"}),
		crossed([]string{"aaaaaaaaaaaaaaa", "b", "cd", "dc"}, []string{"x", "xy", "yxyxy"}),
	}
	for seed := range 40 {
		out = append(out, pieced(dice(seed)))
	}
	return out
}

// goodSign says what the chapters say of a sign.
func goodSign(n int) bool {
	return n >= 0 && n < 55296 || n > 57343 && n <= 1114111
}

// slowCheck says what the chapter of automata says of one that may be.
func slowCheck(l []api.State) bool {
	for at, s := range l {
		for i, a := range s.Arcs {
			if !goodSign(a.Sign) || !(at < a.To && a.To < len(l)) {
				return false
			}
			for _, b := range s.Arcs[:i] {
				if b.Sign >= a.Sign {
					return false
				}
			}
		}
	}
	return 1 <= len(l) && len(l) <= 6001
}

// slowLeast says what the chapter says of an automaton that is least.
func slowLeast(l []api.State) bool {
	for i, s := range l {
		if slices.ContainsFunc(l[:i], func(x api.State) bool { return alikeState(x, s) }) {
			return false
		}
	}
	return slowCheck(l)
}

// called is a word as a map's key.
func called(w []int) string {
	s := ""
	for _, n := range w {
		s += string(rune(n))
	}
	return s
}

// beginningsOf are what the words begin with, nothing among them, in order.
func beginningsOf(l [][]int) [][]int {
	out := [][]int{{}}
	for _, w := range l {
		for long := 1; long <= len(w); long++ {
			out = append(out, w[:long])
		}
	}
	return rising(out)
}

// endingsOf are what stands behind a beginning, in order, as one text: a byte 10 is at no place of a word.
func endingsOf(l [][]int, u []int) string {
	var b strings.Builder
	from, _ := slices.BinarySearchFunc(l, u, slices.Compare)
	for _, w := range l[from:] {
		if len(w) < len(u) || !slices.Equal(w[:len(u)], u) {
			break
		}
		b.WriteString(called(w[len(u):]) + "\n")
	}
	return b.String()
}

// group is the beginnings that are alike, in order.
type group struct {
	ends   string
	begins [][]int
}

func (g group) longest() int {
	long := 0
	for _, u := range g.begins {
		long = max(long, len(u))
	}
	return long
}

// groupsOf are the groups of the words' beginnings, in the order that the chapter says.
func groupsOf(l [][]int) []group {
	out := []group{}
	places := map[string]int{}
	for _, u := range beginningsOf(l) {
		ends := endingsOf(l, u)
		at, has := places[ends]
		if !has {
			at = len(out)
			places[ends] = at
			out = append(out, group{ends: ends})
		}
		out[at].begins = append(out[at].begins, u)
	}
	slices.SortFunc(out, func(a, b group) int {
		return cmp.Or(cmp.Compare(a.longest(), b.longest()), slices.Compare(a.begins[0], b.begins[0]))
	})
	return out
}

// slowMake says what the chapter says of words that rise, and fit.
func slowMake(l [][]int) []api.State {
	groups := groupsOf(l)
	place := map[string]int{}
	for at, g := range groups {
		for _, u := range g.begins {
			place[called(u)] = at
		}
	}
	out := make([]api.State, len(groups))
	for at, g := range groups {
		// Each of them has the same signs behind it: the last one tells them as well as the first one.
		u := g.begins[len(g.begins)-1]
		for _, w := range l {
			if len(w) < len(u) || !slices.Equal(w[:len(u)], u) {
				continue
			}
			if len(w) == len(u) {
				out[at].Final = true
				continue
			}
			a := api.Arc{Sign: w[len(u)], To: place[called(w[:len(u)+1])]}
			if arcs := out[at].Arcs; len(arcs) == 0 || arcs[len(arcs)-1] != a {
				out[at].Arcs = append(arcs, a)
			}
		}
	}
	return out
}

// follow is where signs lead, by the arcs as they stand.
func follow(l []api.State, w []int) (int, bool) {
	at := 0
	for _, n := range w {
		i := slices.IndexFunc(l[at].Arcs, func(a api.Arc) bool { return a.Sign == n })
		if i < 0 {
			return 0, false
		}
		at = l[at].Arcs[i].To
	}
	return at, true
}

// told are all words that lead from a state to one that is Final, in order, with what stands ahead of them.
func told(l []api.State, at int, ahead []int) [][]int {
	out := [][]int{}
	if l[at].Final {
		out = append(out, slices.Clone(ahead))
	}
	for _, a := range l[at].Arcs {
		out = append(out, told(l, a.To, append(slices.Clone(ahead), a.Sign))...)
	}
	return out
}

func checkMake(t *testing.T, l [][]int, want ...api.State) {
	t.Helper()
	if got, err := Make(l); err != api.OK || !alike(got, want) {
		t.Errorf("Make(%v) is %v, %d, want %v", l, got, err, want)
	}
}

// checkUnmade holds an error of Make, and the empty answer beside it, against what is to be told.
func checkUnmade(t *testing.T, l [][]int, fault api.Errno) {
	t.Helper()
	if got, err := Make(l); err != fault || len(got) > 0 {
		t.Errorf("Make(%v) is %v, %d, want %d", l, got, err, fault)
	}
}

func checkLeast(t *testing.T, l []api.State, want bool) {
	t.Helper()
	if got := Least(l); got != want {
		t.Errorf("Least(%v) is %t", l, got)
	}
}

// P11.1: what is made

func TestMakeOfNoWords(t *testing.T) {
	for _, l := range [][][]int{nil, {}, wordsOf("ab")[:0]} {
		checkMake(t, l, state(false))
	}
}

func TestMakeOfOneWord(t *testing.T) {
	for _, n := range []int{0, 1, 97, 228, 8364, api.LowHalf - 1, api.HighHalf + 1, 65533, api.MaxRune} {
		checkMake(t, [][]int{{n}}, state(false, n, 1), state(true))
		checkMake(t, [][]int{{97, n}}, state(false, 97, 1), state(false, n, 2), state(true))
		for long := 1; long <= 20; long++ {
			var want []api.State
			for at := range long {
				want = append(want, state(false, n, at+1))
			}
			checkMake(t, [][]int{slices.Repeat([]int{n}, long)}, append(want, state(true))...)
		}
	}
	checkMake(t, wordsOf("a#b"), state(false, 97, 1), state(false, 35, 2), state(false, 98, 3), state(true))
}

func TestMakeOfSeveralWords(t *testing.T) {
	checkMake(t, wordsOf("ac", "bc"), state(false, 97, 1, 98, 1), state(false, 99, 2), state(true))
	checkMake(t, wordsOf("a", "ab"), state(false, 97, 1), state(true, 98, 2), state(true))
	checkMake(t, wordsOf("a", "b"), state(false, 97, 1, 98, 1), state(true))
	checkMake(t, wordsOf("ab", "ac", "ad"), state(false, 97, 1), state(false, 98, 2, 99, 2, 100, 2), state(true))
	checkMake(t, wordsOf("abc", "abd", "bc"), state(false, 97, 1, 98, 2), state(false, 98, 3), state(false, 99, 4), state(false, 99, 4, 100, 4), state(true))
	checkMake(t, wordsOf("a", "aa", "aaa"), state(false, 97, 1), state(true, 97, 2), state(true, 97, 3), state(true))
	// Signs rise as numbers do, not as other writings of them.
	checkMake(t, wordsOf("z", "ä", "\uffff", "😀"), state(false, 122, 1, 228, 1, 65535, 1, 128512, 1), state(true))
}

// Endings behind unlike beginnings, of one length and of several.
func TestMakeOfWordsThatEndAlike(t *testing.T) {
	checkMake(t, wordsOf("tap", "taps", "top", "tops"), state(false, 't', 1), state(false, 'a', 2, 'o', 2), state(false, 'p', 3), state(true, 's', 4), state(true))
	checkMake(t, wordsOf("ab", "b"), state(false, 97, 1, 98, 2), state(false, 98, 2), state(true))
	checkMake(t, wordsOf("ab", "ac", "b", "ba"), state(false, 97, 1, 98, 2), state(false, 98, 3, 99, 3), state(true, 97, 3), state(true))
	checkMake(t, wordsOf("ax", "bbx"), state(false, 97, 2, 98, 1), state(false, 98, 2), state(false, 120, 3), state(true))
	checkMake(t, wordsOf("aaab", "aab", "ab", "b"), state(false, 97, 1, 98, 4), state(false, 97, 2, 98, 4), state(false, 97, 3, 98, 4), state(false, 98, 4), state(true))
	checkMake(t, wordsOf("ab", "abc", "b"), state(false, 97, 1, 98, 3), state(false, 98, 2), state(true, 99, 3), state(true))
	checkMake(t, wordsOf("axy", "axz", "bbbxy", "bbbxz", "cxy"),
		state(false, 97, 5, 98, 1, 99, 2), state(false, 98, 3), state(false, 120, 4), state(false, 98, 5), state(false, 121, 7), state(false, 120, 6), state(false, 121, 7, 122, 7), state(true))
}

// A beginning that is a word stands apart from one that is none, whatever else stands behind both.
func TestMakeOfBeginningsThatAreWords(t *testing.T) {
	checkMake(t, wordsOf("a", "ac", "bc"), state(false, 97, 1, 98, 2), state(true, 99, 3), state(false, 99, 3), state(true))
	checkMake(t, wordsOf("ac", "b", "bc"), state(false, 97, 1, 98, 2), state(false, 99, 3), state(true, 99, 3), state(true))
	checkMake(t, wordsOf("a", "ac", "b", "bc"), state(false, 97, 1, 98, 1), state(true, 99, 2), state(true))
	checkMake(t, wordsOf("a", "ac", "ad", "b", "bc", "bd", "cc", "cd"), state(false, 97, 1, 98, 1, 99, 2), state(true, 99, 3, 100, 3), state(false, 99, 3, 100, 3), state(true))
	checkMake(t, wordsOf("a", "b", "bc"), state(false, 97, 2, 98, 1), state(true, 99, 2), state(true))
}

// The first beginning of a state is the first one in order, not the longest one, nor the shortest one; and states stand first by their longest ones.
func TestMakeOrdersStates(t *testing.T) {
	// Of a and zz there stands x behind, of b and yy there stands y.
	checkMake(t, wordsOf("ax", "by", "yyy", "zzx"), state(false, 97, 3, 98, 4, 121, 1, 122, 2), state(false, 121, 4), state(false, 122, 3), state(false, 120, 5), state(false, 121, 5), state(true))
	// Of c and ad x, of b and ee y.
	checkMake(t, wordsOf("adx", "by", "cx", "eey"), state(false, 97, 1, 98, 4, 99, 3, 101, 2), state(false, 100, 3), state(false, 101, 4), state(false, 120, 5), state(false, 121, 5), state(true))
	// Of c and ddd x, of ea y: the shorter longest one stands ahead, though its first one does not.
	checkMake(t, wordsOf("cx", "dddx", "eay"),
		state(false, 99, 5, 100, 1, 101, 2), state(false, 100, 3), state(false, 97, 4), state(false, 100, 5), state(false, 121, 6), state(false, 120, 6), state(true))
	// Of aab and c x, of bb and aac y: of one longest length, with the first ones both the longest ones.
	checkMake(t, wordsOf("aabx", "aacy", "bby", "cx"),
		state(false, 97, 1, 98, 2, 99, 4), state(false, 97, 3), state(false, 98, 5), state(false, 98, 4, 99, 5), state(false, 120, 6), state(false, 121, 6), state(true))
}

func TestMakeAsTheChapterSays(t *testing.T) {
	for _, l := range someWords() {
		checkMake(t, l, slowMake(l)...)
	}
	for n := range 301 {
		checkMake(t, distinct(n), slowMake(distinct(n))...)
		checkMake(t, endAlike(n, 1+n%20), slowMake(endAlike(n, 1+n%20))...)
	}
	for seed := range 3000 {
		l := pieced(dice(seed * 7919))
		checkMake(t, l, slowMake(l)...)
	}
}

func TestMakeOfAllShortWords(t *testing.T) {
	of := rising(lists([]int{97, 98}, 3)[1:])
	for _, l := range subsets(of, len(of)) {
		checkMake(t, l, slowMake(l)...)
	}
	of = rising(lists([]int{0, 228, api.MaxRune}, 2)[1:])
	for _, l := range subsets(of, len(of)) {
		checkMake(t, l, slowMake(l)...)
	}
	of = rising(lists([]int{97, 98, 99}, 3)[1:])
	for _, l := range subsets(of, 3) {
		checkMake(t, l, slowMake(l)...)
	}
}

func TestMakeOfThreeHundredWords(t *testing.T) {
	for _, n := range []int{1, 2, 299, 300} {
		for _, long := range []int{1, 2, 3, 19, 20} {
			l, err := Make(apart(n, long))
			if err != api.OK || len(l) != 2+n*(long-1) {
				t.Errorf("%d words that have nothing alike, of %d signs: %d states, %d", n, long, len(l), err)
			}
			l, err = Make(endAlike(n, long))
			if err != api.OK || len(l) != 1+long {
				t.Errorf("%d words that end alike, of %d signs: %d states, %d", n, long, len(l), err)
			}
		}
	}
	l, _ := Make(apart(300, 20))
	last := len(l) - 1
	if len(l[0].Arcs) != 300 || l[last-1].Final || !l[last].Final || len(l[last].Arcs) > 0 || !alikeState(l[last-1], state(false, 1299, last)) || !alikeState(l[last-300], state(false, 1000, last)) {
		t.Errorf("%d states, %v .. %v", len(l), l[0], l[last-300:])
	}
}

// P11.1: errors

// misfits are words that do not fit.
func misfits() [][]int {
	return [][]int{
		nil, {}, {9}, {10}, {32}, {35}, word("#a"), word("a b"), word("ab\n"), word("\tab"), word("abcdefghijklmnopqrstu"),
		{-1}, {97, api.LowHalf}, {api.HighHalf, 97}, {97, api.MaxRune + 1, 97}, {1<<32 + 97}, {math.MinInt}, {math.MaxInt}, make([]int, 1000), make([]int, 100000),
	}
}

func TestMakeOfWordsThatDoNotFit(t *testing.T) {
	for _, bad := range misfits() {
		checkUnmade(t, [][]int{bad}, api.ErrLong)
		for _, n := range []int{1, 2, 20, 299} {
			for _, at := range []int{0, n / 2, n} {
				checkUnmade(t, slices.Insert(distinct(n), at, bad), api.ErrLong)
			}
		}
		l := append(distinct(5), bad)
		slices.SortFunc(l, slices.Compare)
		checkUnmade(t, l, api.ErrLong)
		checkUnmade(t, [][]int{bad, bad}, api.ErrLong)
		// With too many words that is what is told.
		for _, at := range []int{0, 150, 300} {
			checkUnmade(t, slices.Insert(distinct(300), at, bad), api.ErrMany)
		}
		checkUnmade(t, slices.Repeat([][]int{bad}, 300), api.ErrLong)
		checkUnmade(t, slices.Repeat([][]int{bad}, 301), api.ErrMany)
	}
}

func TestMakeOfWordsThatDoNotRise(t *testing.T) {
	for _, l := range [][]string{{"b", "a"}, {"a", "a"}, {"ab", "a"}, {"a", "b", "b"}, {"a", "c", "b"}, {"b", "a", "c"}, {"a", "b", "a"}, {"bc", "ac"}, {"ac", "ac"}, {"ä", "z"}, {"😀", "\uffff"}, {"abcdefghijklmnopqrst", "abcdefghijklmnopqrst"}} {
		checkUnmade(t, wordsOf(l...), api.ErrLong)
	}
	for _, n := range []int{2, 3, 50, 300} {
		back := distinct(n)
		slices.Reverse(back)
		checkUnmade(t, back, api.ErrLong)
		for at := range n - 1 {
			l := distinct(n)
			l[at], l[at+1] = l[at+1], l[at]
			checkUnmade(t, l, api.ErrLong)
			again := distinct(n)
			again[at+1] = slices.Clone(again[at])
			checkUnmade(t, again, api.ErrLong)
			again[at+1] = again[at]
			checkUnmade(t, again, api.ErrLong)
		}
	}
	back := distinct(301)
	slices.Reverse(back)
	checkUnmade(t, back, api.ErrMany)
	checkUnmade(t, slices.Repeat(wordsOf("a"), 300), api.ErrLong)
	checkUnmade(t, slices.Repeat(wordsOf("a"), 301), api.ErrMany)
}

func TestMakeOfTooManyWords(t *testing.T) {
	for _, n := range []int{301, 302, 310, 600, 6001, 6002, 100000} {
		checkUnmade(t, distinct(n), api.ErrMany)
		checkUnmade(t, make([][]int, n), api.ErrMany)
		checkMake(t, distinct(n)[n-300:], slowMake(distinct(n)[n-300:])...)
	}
	checkUnmade(t, apart(301, 20), api.ErrMany)
	checkUnmade(t, apart(301, 21), api.ErrMany)
	checkUnmade(t, apart(300, 21), api.ErrLong)
	checkUnmade(t, endAlike(301, 20), api.ErrMany)
	checkUnmade(t, endAlike(300, 21), api.ErrLong)
	checkUnmade(t, append(apart(300, 20), []int{2000}), api.ErrMany)
}

// What is wrong is trie.Make's error, whatever the words are.
func TestMakeTellsTheErrorOfBeginnings(t *testing.T) {
	of := append(wordsOf("a", "ab", "b", "bb", "ä", "a#", "", "#", "a b", "\r"), []int{-1}, []int{97, api.LowHalf})
	for _, l := range lists(of, 4) {
		_, fault := trie.Make(l)
		if fault != api.OK {
			checkUnmade(t, l, fault)
			continue
		}
		checkMake(t, l, slowMake(l)...)
	}
}

// P11.2

// row are so many states, each of which leads to the next one.
func row(n int) []api.State {
	l := make([]api.State, n)
	for at := range n - 1 {
		l[at] = state(at%3 == 0, 97, at+1)
	}
	return l
}

func TestLeastOfHowManyStates(t *testing.T) {
	for _, l := range [][]api.State{nil, {}, make([]api.State, 2)[:0]} {
		checkLeast(t, l, false)
	}
	checkLeast(t, []api.State{{}}, true)
	checkLeast(t, []api.State{{Final: true}}, true)
	checkLeast(t, []api.State{{Arcs: []api.Arc{}}}, true)
	for _, n := range []int{1, 2, 3, 300, 301, 5999, 6000, 6001, 6002, 6003, 12002, 65536, 1000000} {
		if got := Least(row(n)); got != (n <= 6001) {
			t.Errorf("Least of %d states in a row is %t", n, got)
		}
		if got := Least(make([]api.State, n)); got != (n == 1) {
			t.Errorf("Least of %d states alike is %t", n, got)
		}
	}
}

// Two states alike, next to one another and far apart, in Final and not, with arcs and without.
func TestLeastOfStatesAlike(t *testing.T) {
	checkLeast(t, []api.State{{}, {}}, false)
	checkLeast(t, []api.State{{Final: true}, {Final: true}}, false)
	checkLeast(t, []api.State{{Arcs: []api.Arc{}}, {Arcs: nil}}, false)
	checkLeast(t, []api.State{{}, {Final: true}}, true)
	checkLeast(t, []api.State{{Final: true}, {}}, true)
	checkLeast(t, []api.State{{}, {Final: true}, {}}, false)
	checkLeast(t, []api.State{state(false, 97, 2), state(false, 97, 2), state(true)}, false)
	checkLeast(t, []api.State{state(true, 97, 2), state(true, 97, 2), state(true)}, false)
	checkLeast(t, []api.State{state(false, 97, 1, 98, 2), state(false, 99, 3), state(false, 99, 3), state(true)}, false)
	checkLeast(t, []api.State{state(false, 97, 1, 98, 1), state(false, 99, 2), state(true)}, true)
	for _, n := range []int{3, 10, 300, 6001} {
		for _, x := range [][2]int{{0, 1}, {0, n - 1}, {0, n - 2}, {n / 2, n/2 + 1}, {n - 3, n - 2}, {n - 2, n - 1}, {n / 3, n - 1}} {
			l := row(n)
			l[x[0]] = l[x[1]]
			if got := Least(l); got != (x[0] == x[1]) {
				t.Errorf("Least of %d states, the ones at %v alike, is %t", n, x, got)
			}
		}
	}
}

// Two states that differ in one thing alone are not alike.
func TestLeastOfStatesThatDiffer(t *testing.T) {
	base := state(false, 97, 6, 99, 7)
	for _, other := range []api.State{
		state(true, 97, 6, 99, 7),
		state(false, 98, 6, 99, 7), state(false, 96, 6, 99, 7), state(false, 97, 6, 98, 7), state(false, 97, 6, 100, 7), state(false, 97, 6, api.MaxRune, 7), state(false, 0, 6, 99, 7),
		state(false, 97, 7, 99, 7), state(false, 97, 6, 99, 6), state(false, 97, 6, 99, 8), state(false, 97, 5, 99, 7), state(false, 97, 7, 99, 6),
		state(false, 97, 6, 99, 7, 100, 7), state(false, 97, 6, 98, 6, 99, 7), state(false, 96, 6, 97, 6, 99, 7), state(false, 97, 6, 99, 7, api.MaxRune, 8),
		state(false, 97, 6), state(false, 99, 7), state(true, 97, 6), state(true, 97, 7, 99, 7),
	} {
		rest := []api.State{state(false, 1, 8), state(false, 2, 8), state(false, 3, 8), state(false, 4, 8), state(false, 5, 8), state(false, 6, 8), state(false, 7, 8), state(false, 8, 8), state(true)}
		for i := range 5 {
			for j := range 5 {
				l := slices.Clone(rest)
				l[i], l[j] = base, other
				checkLeast(t, l, true)
				if i != j {
					l[i] = other
					checkLeast(t, l, false)
					l[i], l[j] = base, base
					checkLeast(t, l, false)
				}
			}
		}
	}
}

// Numbers of arcs that could be taken for one another, if they were put side by side, and signs that have bytes alike.
func TestLeastOfArcsThatLookAlike(t *testing.T) {
	l := row(6001)
	for at := range 6 {
		l[at] = []api.State{state(false, 1, 2300), state(false, 12, 300), state(false, 123, 4000), state(false, 1234, 1000), state(false, 1, 23, 4, 56), state(false, 12, 34, 56, 78)}[at]
	}
	checkLeast(t, l, true)
	signs := []int{0, 1, 48, 127, 128, 255, 256, 2047, 2048, 55294, 55295, 57344, 65279, 65532, 65533, 65534, 65535, 65536, 65537, 1114110, 1114111}
	l = nil
	for _, n := range signs {
		l = append(l, state(false, n, len(signs)))
	}
	checkLeast(t, append(l, state(true)), true)
	// Each sign against each place, as first and as second.
	l = row(6001)
	at := 0
	for _, n := range signs {
		for _, to := range []int{1500, 2047, 2048, 4000, 5999, 6000} {
			l[at] = state(false, n, to)
			l[at+1] = state(true, n, to)
			at += 2
			if n < api.MaxRune-5 {
				l[at] = state(false, n, to, api.MaxRune-5, n%1000+2000)
				at++
			}
		}
	}
	checkLeast(t, l, true)
	l[1400] = l[7]
	checkLeast(t, l, false)
	// The signs 0 and 1 tell nothing of Final.
	checkLeast(t, []api.State{state(false, 0, 2, 1, 3), state(true, 0, 2, 1, 3), state(false, 0, 3, 1, 4), state(false, 1, 4), state(true)}, true)
}

// What leads nowhere, or is led to by nothing, is a state, too.
func TestLeastOfOtherAutomata(t *testing.T) {
	checkLeast(t, []api.State{{}, state(true, 97, 2), state(true)}, true)
	checkLeast(t, []api.State{state(true), state(false, 97, 2), {}}, true)
	checkLeast(t, []api.State{state(false, 97, 3), state(true), {}, state(true)}, false)
	// Two that have the same words, and unlike arcs, are not alike.
	checkLeast(t, []api.State{state(false, 97, 1), state(false, 98, 3), state(false, 97, 3), {}}, true)
}

// An automaton that may not be is not least, though no two states of it are alike.
func TestLeastOfAutomataThatMayNotBe(t *testing.T) {
	for _, l := range [][]api.State{
		{state(false, 97, 0)}, {state(false, 97, 1)}, {state(false, 97, -1)}, {state(false, 97, 2), state(true)}, {state(false, 97, 1), state(true, 97, 1)}, {state(false, 97, 1), state(true, 97, 0)},
		{state(false, 98, 1, 97, 1), state(true)}, {state(false, 97, 1, 97, 1), state(true)}, {state(false, 97, 1), state(false, 98, 2, 98, 2), state(true)},
		{state(false, -1, 1), state(true)}, {state(false, api.LowHalf, 1), state(true)}, {state(false, api.HighHalf, 1), state(true)}, {state(false, api.MaxRune+1, 1), state(true)},
		{state(false, 1<<32+97, 1), state(true)}, {state(false, math.MinInt, 1), state(true)}, {state(false, math.MaxInt, 1), state(true)}, {state(false, 97, math.MaxInt), state(true)}, {state(false, 97, math.MinInt), state(true)},
		{state(false, 97, 1<<32+1), state(true)}, {state(false, 97, 1), state(true), state(false, 97, 3)},
	} {
		checkLeast(t, l, false)
	}
	l := row(6001)
	for _, at := range []int{0, 1, 3000, 5999} {
		for _, a := range []api.Arc{{Sign: -1, To: 6000}, {Sign: 97, To: at}, {Sign: 97, To: 6001}, {Sign: api.LowHalf, To: 6000}} {
			bad := slices.Clone(l)
			bad[at] = api.State{Arcs: []api.Arc{a}}
			checkLeast(t, bad, false)
		}
	}
	// Nothing leads to the last one: all that is wrong is how many they are.
	for _, n := range []int{2, 6000, 6001, 6002, 6003} {
		if got := Least(append(row(n-1), state(true))); got != (n <= 6001) {
			t.Errorf("Least of %d states, one of them beside a row, is %t", n, got)
		}
	}
}

func TestLeastOfAllSmallAutomata(t *testing.T) {
	arcs := func(signs, tos []int) [][]api.Arc {
		var of []api.Arc
		for _, n := range signs {
			for _, to := range tos {
				of = append(of, api.Arc{Sign: n, To: to})
			}
		}
		return lists(of, 2)
	}
	both := func(l [][]api.Arc) []api.State {
		var out []api.State
		for _, a := range l {
			out = append(out, api.State{Arcs: a}, api.State{Final: true, Arcs: a})
		}
		return out
	}
	least := 0
	try := func(l ...api.State) {
		if Least(l) != slowLeast(l) {
			t.Fatalf("Least(%v) is %t", l, Least(l))
		}
		if slowLeast(l) {
			least++
		}
	}
	two := both(arcs([]int{-1, 97, 98, api.LowHalf}, []int{-1, 0, 1, 2}))
	three := both(arcs([]int{97, 98}, []int{0, 1, 2, 3}))
	for _, a := range two {
		try(a)
		for _, b := range two {
			try(a, b)
		}
	}
	for _, a := range three {
		for _, b := range three {
			for _, c := range three {
				try(a, b, c)
			}
		}
	}
	last := both(arcs([]int{97, 98}, []int{3}))
	for _, a := range both(arcs([]int{97, 98}, []int{1, 2, 3})) {
		for _, b := range both(arcs([]int{97, 98}, []int{2, 3})) {
			for _, c := range last {
				try(a, b, c, state(true))
				try(a, b, c, state(false))
			}
		}
	}
	if least < 100 {
		t.Errorf("only %d are least", least)
	}
}

func TestLeastOfManyArcs(t *testing.T) {
	wide := api.State{}
	for n := range 50000 {
		wide.Arcs = append(wide.Arcs, api.Arc{Sign: n, To: 3})
	}
	other := api.State{Arcs: slices.Clone(wide.Arcs)}
	short := api.State{Arcs: wide.Arcs[:49999]}
	checkOf := func(a, b api.State, want bool) {
		t.Helper()
		if got := Least([]api.State{a, b, {}, state(true)}); got != want {
			t.Errorf("Least of states of %d and %d arcs is %t", len(a.Arcs), len(b.Arcs), got)
		}
	}
	checkOf(wide, wide, false)
	checkOf(wide, other, false)
	checkOf(wide, short, true)
	other.Arcs[25000].To = 2
	checkOf(wide, other, true)
	other.Arcs[25000].To = 3
	other.Arcs[49999].Sign++
	checkOf(wide, other, true)
}

// P11.3

func TestWhatIsMadeMayBeAndIsLeast(t *testing.T) {
	for _, l := range someWords() {
		made, err := Make(l)
		if err != api.OK || !trie.Check(made) || !slowCheck(made) || !Least(made) || !slowLeast(made) {
			t.Errorf("Make(%v) is %v, %d", l, made, err)
		}
	}
}

// What has all beginnings' states is least just if none of them are alike.
func TestLeastOfWhatHasAllBeginnings(t *testing.T) {
	for _, l := range someWords() {
		all, _ := trie.Make(l)
		checkLeast(t, all, len(groupsOf(l)) == len(all))
	}
}

func TestWhatIsMadeHasTheSameWordsInNoMoreStates(t *testing.T) {
	fewer := 0
	for _, l := range someWords() {
		made, _ := Make(l)
		all, _ := trie.Make(l)
		if !alikeWords(told(made, 0, nil), l) || !alikeWords(told(all, 0, nil), l) {
			t.Errorf("of %v it has %v", l, told(made, 0, nil))
		}
		if len(made) > len(all) {
			t.Errorf("Make(%v) has %d states, more than %d", l, len(made), len(all))
		}
		if len(made) < len(all) {
			fewer++
		}
	}
	if fewer < 20 {
		t.Errorf("only %d have fewer states", fewer)
	}
}

// Two beginnings lead to one state just if they are alike, which has their place, and is Final if they are words; what begins no word leads nowhere.
func TestBeginningsLeadToTheirStates(t *testing.T) {
	for _, l := range someWords() {
		made, _ := Make(l)
		groups := groupsOf(l)
		if len(made) != len(groups) {
			t.Errorf("Make(%v) has %d states, want %d", l, len(made), len(groups))
		}
		all := beginningsOf(l)
		for want, g := range groups {
			for _, u := range g.begins {
				at, leads := follow(made, u)
				if at != want || !leads {
					t.Fatalf("of %v: %v leads to %d, %t, want %d", l, u, at, leads, want)
				}
				if _, isWord := slices.BinarySearchFunc(l, u, slices.Compare); made[at].Final != isWord {
					t.Errorf("of %v: Final of %v is %t", l, u, made[at].Final)
				}
				for _, n := range []int{0, 96, 97, 98, 99, 228, 8364, api.MaxRune} {
					longer := append(slices.Clone(u), n)
					_, begins := slices.BinarySearchFunc(all, longer, slices.Compare)
					if _, leads := follow(made, longer); leads != begins {
						t.Fatalf("of %v: %v leads somewhere: %t", l, longer, leads)
					}
				}
			}
		}
	}
}

// The words of what is made are told again as the same automaton.
func TestMakeOfItsOwnWords(t *testing.T) {
	for _, l := range someWords() {
		made, _ := Make(l)
		checkMake(t, told(made, 0, nil), made...)
	}
}

// R4

func TestTheSameEachTime(t *testing.T) {
	for _, l := range someWords() {
		want := slowMake(l)
		for range 10 {
			roomy := make([][]int, 0, len(l)+7)
			for _, w := range l {
				roomy = append(roomy, append(make([]int, 0, 30), w...))
			}
			checkMake(t, l, want...)
			checkMake(t, roomy, want...)
		}
	}
}

// R3

// Words that lie over each other in one row, in a list with spare room: neither is changed, in order or not.
func TestMakeChangesNothing(t *testing.T) {
	row := []int{97, 97, 97, 98, 98, 99, 97, -1, 35}
	l := [][]int{row[0:1], row[0:2], row[0:3], row[1:4], row[3:4], row[3:5], row[5:6], row[5:7], row[0:1], row[7:8], row[8:9]}
	for n := range len(l) + 1 {
		kept, signs := deep(l), slices.Clone(row)
		if n <= 8 {
			checkMake(t, l[:n], slowMake(l[:n])...)
			checkMake(t, l[:n], slowMake(l[:n])...)
		} else {
			checkUnmade(t, l[:n], api.ErrLong)
		}
		if !alikeWords(l, kept) || !slices.Equal(row, signs) {
			t.Errorf("%v of %v became %v of %v", kept, signs, l, row)
		}
	}
	if &l[1][0] != &row[0] || &l[4][0] != &row[3] {
		t.Error("the words are others")
	}
	back := wordsOf("c", "a", "b", "a")
	kept := deep(back)
	checkUnmade(t, back, api.ErrLong)
	if !alikeWords(back, kept) {
		t.Errorf("%v became %v", kept, back)
	}
}

func TestLeastChangesNothing(t *testing.T) {
	arcs := []api.Arc{{Sign: 97, To: 1}, {Sign: 98, To: 2}, {Sign: 98, To: 2}, {Sign: -1, To: 9}, {Sign: 99, To: 2}}
	l := []api.State{{Arcs: arcs[:2]}, {Final: true, Arcs: arcs[1:2]}, {Arcs: arcs[2:2]}, {Final: true, Arcs: arcs[5:]}, {Arcs: arcs[:0]}, {Arcs: arcs}}
	kept, signs := deepStates(l), slices.Clone(arcs)
	for n := range len(l) + 1 {
		checkLeast(t, l[:n], n == 3 || n == 4)
		checkLeast(t, l[:n], n == 3 || n == 4)
	}
	if !alike(l, kept) || !slices.Equal(arcs, signs) || &l[1].Arcs[0] != &arcs[1] {
		t.Errorf("%v of %v became %v of %v", kept, signs, l, arcs)
	}
}

// Least asks for no more than the states: what it was asked of other ones ahead, or of the same ones as they were, tells nothing.
func TestLeastKeepsNothing(t *testing.T) {
	l := []api.State{state(false, 97, 1), state(false, 97, 2), state(true)}
	for range 3 {
		checkLeast(t, l, true)
		l[0].Arcs[0].To = 2
		checkLeast(t, l, false)
		l[0].Final = true
		checkLeast(t, l, true)
		l[0] = state(false, 97, 1)
	}
}

// What was made is not the words' memory, nor what is made next.
func TestMakeKeepsNothing(t *testing.T) {
	for _, l := range someWords() {
		want := slowMake(l)
		first, _ := Make(l)
		x := deep(l)
		second, _ := Make(x)
		kept := deep(l)
		for i := range first[:cap(first)] {
			s := &first[:cap(first)][i]
			for j := range s.Arcs[:cap(s.Arcs)] {
				s.Arcs[:cap(s.Arcs)][j] = api.Arc{Sign: -7, To: -7}
			}
			*s = api.State{Final: true}
		}
		for i, w := range x {
			for j := range w {
				w[j] = 7
			}
			x[i] = nil
		}
		if !alike(second, want) || !alikeWords(l, kept) {
			t.Errorf("%v of %v became %v of %v", want, kept, second, l)
		}
		checkMake(t, l, want...)
	}
}

// Each state's arcs, changed up to their spare room's end, and with more put behind, change no others.
func TestArcsShareNoMemory(t *testing.T) {
	for _, l := range someWords() {
		made, _ := Make(l)
		want := slowMake(l)
		for i := range made {
			room := made[i].Arcs[:cap(made[i].Arcs)]
			for j := range room {
				room[j] = api.Arc{Sign: -5, To: -5 - i}
			}
			made[i].Arcs = append(made[i].Arcs, api.Arc{Sign: -6, To: -5 - i})
		}
		for i, s := range made {
			if len(s.Arcs) != len(want[i].Arcs)+1 || s.Final != want[i].Final {
				t.Fatalf("of %v: state %d became %v", l, i, s)
			}
			for _, a := range s.Arcs {
				if a.To != -5-i {
					t.Fatalf("of %v: state %d became %v", l, i, s)
				}
			}
		}
	}
}
