package rule

import (
	"math"
	"slices"
	"testing"

	"spellwright/api"
)

const inf uint64 = api.Inf

// word is a text's signs.
func word(s string) []int {
	l := []int{}
	for _, r := range s {
		l = append(l, int(r))
	}
	return l
}

// from is the rule of two texts.
func from(left, right string, cost uint64) api.Rule {
	return api.Rule{Left: word(left), Right: word(right), Cost: cost}
}

func deep(l []api.Rule) []api.Rule {
	out := []api.Rule{}
	for _, r := range l {
		out = append(out, api.Rule{Left: slices.Clone(r.Left), Right: slices.Clone(r.Right), Cost: r.Cost})
	}
	return out
}

func sameRule(a, b api.Rule) bool {
	return sameSides(a, b) && a.Cost == b.Cost
}

func sameSides(a, b api.Rule) bool {
	return slices.Equal(a.Left, b.Left) && slices.Equal(a.Right, b.Right)
}

func same(a, b []api.Rule) bool {
	return slices.EqualFunc(a, b, sameRule)
}

// joined are both lists' rules, in a list of its own.
func joined(a, b []api.Rule) []api.Rule {
	return append(deep(a), deep(b)...)
}

func turned(l []api.Rule) []api.Rule {
	out := deep(l)
	slices.Reverse(out)
	return out
}

// shuffled is the same list in another order, which hangs on the seed alone.
func shuffled(l []api.Rule, seed uint64) []api.Rule {
	out := deep(l)
	for i := len(out) - 1; i > 0; i-- {
		seed = seed*6364136223846793005 + 1442695040888963407
		j := int(seed >> 33 % uint64(i+1))
		out[i], out[j] = out[j], out[i]
	}
	return out
}

// lists are the lists of at most so many of these, the shorter ones first.
func lists[T any](of []T, long int) [][]T {
	out := [][]T{{}}
	begin := 0
	for range long {
		end := len(out)
		for _, l := range out[begin:end] {
			for _, x := range of {
				out = append(out, append(slices.Clone(l), x))
			}
		}
		begin = end
	}
	return out
}

// noSigns are numbers that have no bytes: those beside the signs, and those that would be signs if only some of their bits were looked at.
func noSigns() []int {
	return []int{
		math.MinInt, -1<<32 + 97, -1114112, -97, -2, -1,
		api.LowHalf, api.LowHalf + 1, 56319, 56320, api.HighHalf - 1, api.HighHalf,
		api.MaxRune + 1, 1 << 21, 1 << 31, 1<<32 - 1, 1 << 32, 1<<32 + 97, math.MaxInt - 1, math.MaxInt,
	}
}

// someSigns are the signs beside those that are none, and ordinary ones; blanks and marks are signs here as others are.
func someSigns() []int {
	return []int{0, 1, 9, 10, 32, 35, 95, 97, 98, 122, 127, 128, 228, 2047, 2048, 8364, api.LowHalf - 1, api.HighHalf + 1, 65535, 65536, api.MaxRune - 1, api.MaxRune}
}

// edgeSides are sides that may be, and some that may not: with each the ones that could be taken for it.
func edgeSides() [][]int {
	eight := word("abcdefgh")
	return [][]int{
		{}, {0}, {0, 0}, {0, 0, 0, 0, 0, 0, 0, 0}, {0, 0, 0, 0, 0, 0, 0, 0, 0},
		word("a"), {97, 0}, {0, 97}, word("aa"), word("ab"), {97, 98, 0}, word("b"), word("ba"),
		eight[:7], eight, {97, 98, 99, 100, 101, 102, 103, 0}, word("abcdefgi"), word("abcdefghi"), word("abcdefgha"), append(word("abcdefgh"), 0),
		{api.MaxRune}, {api.MaxRune + 1}, {97, api.LowHalf}, {-1}, {1<<32 + 97}, {math.MinInt}, {math.MaxInt},
	}
}

func edgeRules() []api.Rule {
	var out []api.Rule
	for _, left := range edgeSides() {
		for _, right := range edgeSides() {
			for _, c := range []uint64{0, 5, inf - 1, inf} {
				out = append(out, api.Rule{Left: slices.Clone(left), Right: slices.Clone(right), Cost: c})
			}
		}
	}
	return out
}

// slowCheck says what the chapter says of a rule that may be.
func slowCheck(r api.Rule) bool {
	for _, l := range [][]int{r.Left, r.Right} {
		if len(l) > 8 {
			return false
		}
		for _, n := range l {
			if n < 0 || n > 1114111 || n >= 55296 && n <= 57343 {
				return false
			}
		}
	}
	return !slices.Equal(r.Left, r.Right) && r.Cost < 18446744073709551615
}

// slowLess says what the chapter says of order, side by side and then by cost.
func slowLess(a, b api.Rule) bool {
	if ahead := slices.Compare(a.Left, b.Left); ahead != 0 {
		return ahead < 0
	}
	if ahead := slices.Compare(a.Right, b.Right); ahead != 0 {
		return ahead < 0
	}
	return a.Cost < b.Cost
}

// slowNorm puts each rule that may be in its place, or makes cheaper the one that is there.
func slowNorm(l []api.Rule) []api.Rule {
	out := []api.Rule{}
	for _, r := range deep(l) {
		if !slowCheck(r) {
			continue
		}
		if at := slices.IndexFunc(out, func(o api.Rule) bool { return sameSides(o, r) }); at >= 0 {
			out[at].Cost = min(out[at].Cost, r.Cost)
			continue
		}
		at := 0
		for at < len(out) && slowLess(out[at], r) {
			at++
		}
		out = slices.Insert(out, at, r)
	}
	return out
}

func checkCheck(t *testing.T, r api.Rule, want bool) {
	t.Helper()
	if got := Check(r); got != want {
		t.Errorf("Check(%v) is %t", r, got)
	}
}

func checkNorm(t *testing.T, l, want []api.Rule) {
	t.Helper()
	if got := Norm(l); !same(got, want) {
		t.Errorf("Norm(%v) is %v, want %v", l, got, want)
	}
}

// P6.1: Check

func TestCheck(t *testing.T) {
	for _, x := range []struct {
		left, right string
		want        bool
	}{
		{"f", "ph", true}, {"ph", "f", true}, {"a", "b", true}, {"b", "a", true}, {"ab", "ba", true},
		{"", "a", true}, {"a", "", true}, {"", "s", true}, {"abcdefgh", "", true}, {"", "abcdefgh", true},
		{"a", "aa", true}, {"aa", "a", true}, {"ab", "abc", true}, {"abc", "ab", true}, {"bc", "abc", true},
		{"", "", false}, {"a", "a", false}, {"ph", "ph", false}, {"abcdefgh", "abcdefgh", false},
		{"a", "ä", true}, {"ä", "a", true}, {"ä", "ä", false}, {"€", "😀", true}, {"😀", "😀", false},
		{"a", "A", true}, {" ", "\t", true}, {"_", "a", true}, {"a", "_", true}, {"#", "\n", true}, {"a b", "ab", true},
		{"\x00", "", true}, {"", "\x00", true}, {"a\x00", "a", true}, {"a", "a\x00", true}, {"\x00", "\x00\x00", true}, {"\x00", "\x00", false},
		{"abcdefg", "abcdefg\x00", true}, {"abcdefgh", "abcdefgi", true}, {"abcdefgh", "xbcdefgh", true},
	} {
		for _, c := range []uint64{0, 1, 2, 1 << 32, 1<<63 - 1, 1 << 63, inf - 2, inf - 1} {
			checkCheck(t, from(x.left, x.right, c), x.want)
		}
		checkCheck(t, from(x.left, x.right, inf), false)
	}
}

// Lists without numbers are alike, nil or not; what stands in their spare room is no number of theirs.
func TestCheckOfSidesWithoutNumbers(t *testing.T) {
	for _, none := range [][]int{nil, {}, word("ab")[:0], []int{-1}[:0]} {
		for _, other := range [][]int{nil, {}, word("cd")[:0]} {
			checkCheck(t, api.Rule{Left: none, Right: other}, false)
			checkCheck(t, api.Rule{Left: other, Right: none, Cost: 7}, false)
		}
		checkCheck(t, api.Rule{Left: none, Right: []int{0}}, true)
		checkCheck(t, api.Rule{Left: []int{0}, Right: none}, true)
		checkCheck(t, api.Rule{Left: none, Right: []int{-1}}, false)
		checkCheck(t, api.Rule{Left: []int{-1}, Right: none}, false)
	}
	checkCheck(t, api.Rule{}, false)
}

func TestCheckOfEachLength(t *testing.T) {
	for n := range 30 {
		for m := range 30 {
			left, right := slices.Repeat([]int{97}, n), slices.Repeat([]int{98}, m)
			checkCheck(t, api.Rule{Left: left, Right: right}, n <= 8 && m <= 8 && n+m > 0)
			alike := slices.Repeat([]int{97}, m)
			checkCheck(t, api.Rule{Left: left, Right: alike}, n <= 8 && m <= 8 && n != m)
			zeros := make([]int, m)
			checkCheck(t, api.Rule{Left: make([]int, n), Right: zeros}, n <= 8 && m <= 8 && n != m)
		}
	}
}

// Each number, at each place of each side, where all else may be.
func TestCheckOfEachPlace(t *testing.T) {
	for n := 1; n <= 8; n++ {
		for at := range n {
			for _, good := range someSigns() {
				checkPlace(t, n, at, good, true)
			}
			for _, bad := range noSigns() {
				checkPlace(t, n, at, bad, false)
			}
		}
	}
}

func checkPlace(t *testing.T, n, at, number int, want bool) {
	t.Helper()
	l := slices.Repeat([]int{97}, n)
	l[at] = number
	for _, other := range [][]int{nil, word("z"), word("qqqqqqqq")} {
		if slices.Equal(l, other) {
			continue
		}
		checkCheck(t, api.Rule{Left: l, Right: other, Cost: 3}, want)
		checkCheck(t, api.Rule{Left: other, Right: l, Cost: 3}, want)
	}
	checkCheck(t, api.Rule{Left: l, Right: slices.Clone(l), Cost: 3}, false)
}

// All numbers around the bounds of what is a sign, in sides of one.
func TestCheckOfAllSigns(t *testing.T) {
	for n := -300; n <= api.MaxRune+300; n++ {
		want := slowCheck(api.Rule{Left: []int{n}})
		checkCheck(t, api.Rule{Left: []int{n}}, want)
		checkCheck(t, api.Rule{Right: []int{n}}, want)
	}
}

func TestCheckOfEdges(t *testing.T) {
	for _, r := range edgeRules() {
		checkCheck(t, r, slowCheck(r))
	}
}

// P6.1: Less

func TestLess(t *testing.T) {
	for _, x := range []struct {
		a, b api.Rule
	}{
		// Unlike in Left alone, in Right alone, in Cost alone.
		{from("a", "x", 5), from("b", "x", 5)},
		{from("", "x", 5), from("a", "x", 5)},
		{from("a", "x", 5), from("ab", "x", 5)},
		{from("ab", "x", 5), from("b", "x", 5)},
		{from("a", "x", 5), from("a\x00", "x", 5)},
		{from("z", "x", 5), from("ä", "x", 5)},
		{from("x", "a", 5), from("x", "b", 5)},
		{from("x", "", 5), from("x", "a", 5)},
		{from("x", "a", 5), from("x", "ab", 5)},
		{from("x", "ab", 5), from("x", "b", 5)},
		{from("x", "a", 5), from("x", "a\x00", 5)},
		{from("x", "€", 5), from("x", "😀", 5)},
		{from("a", "b", 0), from("a", "b", 1)},
		{from("a", "b", 9), from("a", "b", 10)},
		{from("a", "b", 1<<63-1), from("a", "b", 1<<63)},
		{from("a", "b", 0), from("a", "b", inf)},
		{from("a", "b", inf-1), from("a", "b", inf)},
		// Left ahead of Right, and Right ahead of Cost.
		{from("a", "y", 5), from("b", "x", 5)},
		{from("a", "x", 9), from("b", "x", 5)},
		{from("a", "y", 9), from("b", "x", 5)},
		{from("x", "a", 9), from("x", "b", 5)},
		{from("a", "bc", 5), from("ab", "c", 5)},
		{from("", "ab", 5), from("a", "b", 5)},
		{from("a", "b", 5), from("ab", "", 5)},
		// Those that may not be.
		{from("a", "a", 0), from("a", "a", 1)},
		{from("", "", 0), from("", "", inf)},
		{from("abcdefghi", "x", 5), from("abcdefghj", "x", 5)},
		{from("abcdefgh", "x", 5), from("abcdefghi", "x", 5)},
		{from("x", "abcdefghi", 5), from("x", "abcdefghj", 5)},
		{from("x", "abcdefgh", 5), from("x", "abcdefghi", 5)},
		{from("abcdefghij", "abcdefghij", 5), from("abcdefghij", "abcdefghij", 6)},
		{api.Rule{Left: []int{-1}, Cost: 5}, api.Rule{Left: []int{0}, Cost: 4}},
		{api.Rule{Right: []int{math.MinInt}, Cost: 5}, api.Rule{Right: []int{math.MaxInt}, Cost: 4}},
		{api.Rule{Left: []int{api.MaxRune}, Cost: 5}, api.Rule{Left: []int{api.MaxRune + 1}, Cost: 4}},
		{api.Rule{Left: []int{97}, Cost: 5}, api.Rule{Left: []int{1<<32 + 97}, Cost: 4}},
		{api.Rule{Left: []int{-1}, Cost: 5}, api.Rule{Left: []int{-1}, Cost: 6}},
	} {
		if !Less(x.a, x.b) {
			t.Errorf("%v does not stand ahead of %v", x.a, x.b)
		}
		if Less(x.b, x.a) {
			t.Errorf("%v stands ahead of %v", x.b, x.a)
		}
		if Less(x.a, x.a) || Less(x.b, x.b) {
			t.Errorf("%v, or %v, stands ahead of itself", x.a, x.b)
		}
	}
}

func TestLessOfSidesWithoutNumbers(t *testing.T) {
	for _, none := range [][]int{nil, {}, word("ab")[:0]} {
		for _, other := range [][]int{nil, {}} {
			a, b := api.Rule{Left: none, Right: other, Cost: 4}, api.Rule{Left: other, Right: none, Cost: 4}
			if Less(a, b) || Less(b, a) {
				t.Errorf("%v and %v are unlike", a, b)
			}
			b.Cost = 5
			if !Less(a, b) || Less(b, a) {
				t.Errorf("%v does not stand ahead of %v", a, b)
			}
		}
	}
}

func TestLessOfEdges(t *testing.T) {
	l := edgeRules()
	for _, a := range l {
		for _, b := range l {
			if got := Less(a, b); got != slowLess(a, b) {
				t.Errorf("Less(%v, %v) is %t", a, b, got)
			}
		}
	}
}

// Of two unlike rules one stands ahead, and what is ahead of one ahead is ahead.
func TestLessIsAnOrder(t *testing.T) {
	var l []api.Rule
	for _, left := range [][]int{nil, {0}, {0, 0}, {1}, {-1}} {
		for _, right := range [][]int{nil, {0}, {0, 1}} {
			for _, c := range []uint64{0, 1, inf} {
				l = append(l, api.Rule{Left: left, Right: right, Cost: c})
			}
		}
	}
	for _, a := range l {
		for _, b := range l {
			if alike := sameRule(a, b); alike && Less(a, b) || !alike && Less(a, b) == Less(b, a) {
				t.Errorf("%v, %v: %t, the other way round %t", a, b, Less(a, b), Less(b, a))
			}
			for _, c := range l {
				if Less(a, b) && Less(b, c) && !Less(a, c) {
					t.Errorf("%v, %v, %v", a, b, c)
				}
			}
		}
	}
}

// P6.2

func TestNorm(t *testing.T) {
	// The same sides, in each order of their costs.
	checkNorm(t, []api.Rule{from("f", "ph", 3), from("f", "ph", 2)}, []api.Rule{from("f", "ph", 2)})
	checkNorm(t, []api.Rule{from("f", "ph", 2), from("f", "ph", 3)}, []api.Rule{from("f", "ph", 2)})
	checkNorm(t, []api.Rule{from("f", "ph", 2), from("f", "ph", 2)}, []api.Rule{from("f", "ph", 2)})
	checkNorm(t, []api.Rule{from("f", "ph", 0), from("f", "ph", 2)}, []api.Rule{from("f", "ph", 0)})
	checkNorm(t, []api.Rule{from("f", "ph", 2), from("f", "ph", 0)}, []api.Rule{from("f", "ph", 0)})
	checkNorm(t, []api.Rule{from("f", "ph", 0)}, []api.Rule{from("f", "ph", 0)})
	checkNorm(t, []api.Rule{from("f", "ph", inf-1)}, []api.Rule{from("f", "ph", inf-1)})
	checkNorm(t, []api.Rule{from("f", "ph", inf-1), from("f", "ph", inf-2)}, []api.Rule{from("f", "ph", inf-2)})
	checkNorm(t, []api.Rule{from("f", "ph", inf), from("f", "ph", inf-1)}, []api.Rule{from("f", "ph", inf-1)})
	checkNorm(t, []api.Rule{from("f", "ph", inf-1), from("f", "ph", inf)}, []api.Rule{from("f", "ph", inf-1)})
	checkNorm(t, []api.Rule{from("f", "ph", 10), from("f", "ph", 9)}, []api.Rule{from("f", "ph", 9)})
	checkNorm(t, []api.Rule{from("f", "ph", 1<<63), from("f", "ph", 1<<63-1)}, []api.Rule{from("f", "ph", 1<<63-1)})

	// The same signs, but not the same sides.
	checkNorm(t, []api.Rule{from("ph", "f", 1), from("f", "ph", 2)}, []api.Rule{from("f", "ph", 2), from("ph", "f", 1)})
	checkNorm(t,
		[]api.Rule{from("abc", "", 1), from("ab", "c", 2), from("a", "bc", 3), from("", "abc", 4)},
		[]api.Rule{from("", "abc", 4), from("a", "bc", 3), from("ab", "c", 2), from("abc", "", 1)})
	checkNorm(t,
		[]api.Rule{from("a\x00", "b", 1), from("a", "b", 2), from("a", "b\x00", 3), from("a", "\x00b", 4)},
		[]api.Rule{from("a", "\x00b", 4), from("a", "b", 2), from("a", "b\x00", 3), from("a\x00", "b", 1)})
	checkNorm(t,
		[]api.Rule{from("\x00", "", 1), from("", "\x00", 2), from("", "\x00\x00", 3), from("\x00\x00", "\x00", 4)},
		[]api.Rule{from("", "\x00", 2), from("", "\x00\x00", 3), from("\x00", "", 1), from("\x00\x00", "\x00", 4)})

	// In the order of Less, which is not that of costs.
	checkNorm(t,
		[]api.Rule{from("b", "", 0), from("a", "z", 9), from("", "b", 3), from("ab", "a", 1), from("a", "b", 7), from("", "a", 4)},
		[]api.Rule{from("", "a", 4), from("", "b", 3), from("a", "b", 7), from("a", "z", 9), from("ab", "a", 1), from("b", "", 0)})
	checkNorm(t,
		[]api.Rule{from("😀", "a", 0), from("z", "a", 0), from("€", "a", 0), from("ä", "a", 0)},
		[]api.Rule{from("z", "a", 0), from("ä", "a", 0), from("€", "a", 0), from("😀", "a", 0)})
}

func TestNormOfNoRules(t *testing.T) {
	checkNorm(t, nil, nil)
	checkNorm(t, []api.Rule{}, nil)
	checkNorm(t, []api.Rule{from("f", "ph", 2)}[:0], nil)
}

func TestNormOfRulesThatMayNotBe(t *testing.T) {
	var bad []api.Rule
	for _, r := range edgeRules() {
		if !slowCheck(r) {
			bad = append(bad, r)
		}
	}
	if len(bad) < 100 {
		t.Fatal("too few rules that may not be")
	}
	checkNorm(t, bad, nil)
	for _, r := range bad {
		checkNorm(t, []api.Rule{r}, nil)
		checkNorm(t, []api.Rule{r, r}, nil)
		checkNorm(t, []api.Rule{r, from("f", "ph", 2)}, []api.Rule{from("f", "ph", 2)})
		checkNorm(t, []api.Rule{from("f", "ph", 2), r}, []api.Rule{from("f", "ph", 2)})
	}
	// One that may not be is not made to one that may, though its first eight numbers are those of one.
	checkNorm(t,
		[]api.Rule{from("abcdefghi", "x", 1), from("abcdefgh", "x", 2), from("x", "abcdefghi", 1), from("x", "abcdefgh", 2)},
		[]api.Rule{from("abcdefgh", "x", 2), from("x", "abcdefgh", 2)})
	checkNorm(t,
		[]api.Rule{{Left: []int{1<<32 + 97}, Right: word("b"), Cost: 1}, from("a", "b", 2), {Left: word("a"), Right: []int{98 - 1<<32}, Cost: 1}},
		[]api.Rule{from("a", "b", 2)})
}

// Every list of at most four of these rules, so that what there is stands in each order.
func TestNormOfAllShortLists(t *testing.T) {
	rules := []api.Rule{
		from("a", "b", 2), from("a", "b", 1), from("b", "a", 1), from("", "a", 0), from("", "a", inf-1),
		from("", "a\x00", 5), from("a", "b", inf), from("a", "a", 0), from("abcdefgh", "", 1), from("abcdefghi", "", 0),
		{Left: []int{-1}, Right: word("a"), Cost: 1},
	}
	for _, l := range lists(rules, 4) {
		checkNorm(t, l, slowNorm(l))
	}
}

func TestNormOfEdges(t *testing.T) {
	l := edgeRules()
	want := slowNorm(l)
	checkNorm(t, l, want)
	checkNorm(t, turned(l), want)
	for _, r := range l {
		checkNorm(t, []api.Rule{r}, slowNorm([]api.Rule{r}))
	}
}

// What is told are rules of the list, by what P6.1 says of them.
func TestWhatIsTold(t *testing.T) {
	l := shuffled(joined(edgeRules(), edgeRules()), 3)
	got := Norm(l)
	for i, r := range got {
		if !Check(r) {
			t.Errorf("%v may not be", r)
		}
		if !slices.ContainsFunc(l, func(o api.Rule) bool { return sameRule(o, r) }) {
			t.Errorf("%v is not one of the list's", r)
		}
		if i > 0 && !Less(got[i-1], r) {
			t.Errorf("%v does not stand ahead of %v", got[i-1], r)
		}
		if i > 0 && sameSides(got[i-1], r) {
			t.Errorf("%v: its sides are told twice", r)
		}
	}
	for _, r := range l {
		if Check(r) && !slices.ContainsFunc(got, func(o api.Rule) bool { return sameSides(o, r) && o.Cost <= r.Cost }) {
			t.Errorf("%v: there is none as cheap", r)
		}
	}
}

// R4: the same list, asked time and again, has the same answer; a map is gone through in another order each time.
func TestNormIsTheSameEachTime(t *testing.T) {
	l := shuffled(edgeRules(), 8)
	want := slowNorm(l)
	for range 50 {
		checkNorm(t, l, want)
		checkNorm(t, l[:20], slowNorm(l[:20]))
	}
}

// P6.3

func TestNormOfNormIsTheSame(t *testing.T) {
	for seed := range uint64(20) {
		once := Norm(shuffled(edgeRules(), seed)[:100+50*seed])
		if len(once) == 0 {
			t.Fatal("no rules")
		}
		checkNorm(t, once, once)
		checkNorm(t, joined(once, once), once)
	}
	for _, l := range [][]api.Rule{nil, {from("a", "b", 1)}, {from("b", "a", 1), from("a", "b", 1)}, {from("a", "b", 2), from("a", "b", 1)}} {
		once := Norm(l)
		checkNorm(t, once, once)
	}
}

func TestNormDoesNotHangOnOrder(t *testing.T) {
	l := edgeRules()
	want := slowNorm(l)
	for seed := range uint64(20) {
		s := shuffled(l, seed)
		checkNorm(t, s, want)
		checkNorm(t, turned(s), want)
		checkNorm(t, joined(s, shuffled(l, seed+100)), want)
		checkNorm(t, turned(Norm(s)), want)
	}
	for _, few := range lists([]api.Rule{from("a", "b", 2), from("a", "b", 1), from("", "a", 3), from("b", "b", 0)}, 5) {
		first := Norm(few)
		checkNorm(t, turned(few), first)
		checkNorm(t, shuffled(few, 1), first)
	}
}

func TestNormOfBothPartsIsNormOfAll(t *testing.T) {
	for seed := range uint64(5) {
		l := shuffled(edgeRules(), seed)
		all := Norm(l)
		for cut := 0; cut <= len(l); cut += 97 {
			checkParts(t, l[:cut], l[cut:], all)
		}
		checkParts(t, nil, l, all)
		checkParts(t, l, l, all)
		checkParts(t, all, l[:500], all)
	}
	few := lists([]api.Rule{from("a", "b", 2), from("a", "b", 1), from("", "a", 3), from("", "a", inf)}, 3)
	for _, a := range few {
		for _, b := range few {
			checkParts(t, a, b, Norm(joined(a, b)))
		}
	}
}

// checkParts holds Norm of both parts, normed both or one alone, against Norm of all.
func checkParts(t *testing.T, a, b, all []api.Rule) {
	t.Helper()
	checkNorm(t, joined(Norm(a), Norm(b)), all)
	checkNorm(t, joined(Norm(b), Norm(a)), all)
	checkNorm(t, joined(Norm(a), b), all)
	checkNorm(t, joined(a, Norm(b)), all)
}

// R1

func TestLongSides(t *testing.T) {
	long := slices.Repeat([]int{97}, 1<<20)
	other := slices.Clone(long)
	other[len(other)-1] = 98
	for _, r := range []api.Rule{{Left: long}, {Right: long}, {Left: long, Right: other}, {Left: long, Right: long}} {
		checkCheck(t, r, false)
		checkNorm(t, []api.Rule{r}, nil)
	}
	a, b := api.Rule{Left: long, Right: long}, api.Rule{Left: slices.Clone(long), Right: other}
	if !Less(a, b) || Less(b, a) || Less(a, a) {
		t.Error("long sides that differ at their end")
	}
}

func TestNormOfMany(t *testing.T) {
	const n = 50000
	var want, dearer []api.Rule
	for i := range n {
		want = append(want, api.Rule{Left: []int{i / 300, 5}, Right: []int{9, 1000 + i%300}, Cost: uint64(n - i)})
		dearer = append(dearer, api.Rule{Left: []int{i / 300, 5}, Right: []int{9, 1000 + i%300}, Cost: uint64(n - i + 1)})
	}
	for _, l := range [][]api.Rule{want, turned(want), shuffled(want, 5), joined(want, dearer), joined(dearer, shuffled(want, 6))} {
		if got := Norm(l); !same(got, want) {
			t.Error("many rules are not told in order, each once")
		}
	}
	alike := slices.Repeat([]api.Rule{from("f", "ph", 3)}, n)
	alike[n/2].Cost = 2
	checkNorm(t, alike, []api.Rule{from("f", "ph", 2)})
}

// R3

// roomy are rules whose sides lie over each other in one row, and with spare room; the rules have spare room, too.
func roomy() ([]api.Rule, []int) {
	row := []int{102, 112, 104, 97, 98, 102, 112, 104, -1, -1, 97}
	l := []api.Rule{
		{Left: row[0:1], Right: row[1:3], Cost: 3},
		{Left: row[3:5], Right: row[4:4], Cost: 1},
		{Left: row[5:6], Right: row[6:8], Cost: 2},
		{Left: row[1:3], Right: row[0:1], Cost: 0},
		{Left: row[7:9], Right: row[0:1], Cost: 0},
		{Left: row[0:1], Right: row[0:1], Cost: 0},
		{Left: row[2:2], Right: row[0:8], Cost: 4},
		{Left: row[0:8], Right: row[2:2], Cost: inf - 1},
		{Left: row[3:4], Right: row[10:11], Cost: 5},
		{Left: row[4:5], Right: row[3:4], Cost: 6},
	}
	return l[:8], row
}

func TestNothingIsChanged(t *testing.T) {
	l, row := roomy()
	whole := l[:cap(l)]
	rules, kept := deep(whole), slices.Clone(row)
	for _, a := range l {
		Check(a)
		for _, b := range l {
			Less(a, b)
		}
	}
	Norm(l)
	Norm(l[:3])
	if !same(whole, rules) || !slices.Equal(row, kept) {
		t.Errorf("%v of %v became %v of %v", rules, kept, whole, row)
	}
	if &l[0].Left[0] != &row[0] || &l[2].Right[0] != &row[6] {
		t.Error("the rules' sides are others")
	}
}

// What is handed in is not kept: changed behind the call, it changes no answer, and later calls see what is there then.
func TestNothingIsKept(t *testing.T) {
	l, row := roomy()
	want := slowNorm(l)
	got := Norm(l)
	for i := range row {
		row[i] = 7
	}
	clear(l[:cap(l)])
	if !same(got, want) {
		t.Errorf("%v became %v", want, got)
	}
	checkNorm(t, l, nil)

	r := from("ab", "cd", 1)
	checkCheck(t, r, true)
	r.Left[1] = -1
	checkCheck(t, r, false)
	copy(r.Left, r.Right)
	checkCheck(t, r, false)

	again := Norm(got)
	got[0].Left, got[1].Cost = word("zz"), 77
	got[2].Right[0] = 99
	clear(got[3:])
	if !same(again, want) {
		t.Errorf("of what was told: %v became %v", want, again)
	}
}

// Each list of an answer, changed up to its spare room's end, and with more put behind, changes nothing else.
func TestAnswersShareNoMemory(t *testing.T) {
	l, row := roomy()
	kept, want := slices.Clone(row), slowNorm(l)
	first, second := Norm(l), Norm(l)
	var sides []*[]int
	for i := range first {
		sides = append(sides, &first[i].Left, &first[i].Right)
	}
	for i, s := range sides {
		var rest [][]int
		for _, o := range sides {
			rest = append(rest, slices.Clone(*o))
		}
		room := (*s)[:cap(*s)]
		for j := range room {
			room[j] = -5
		}
		*s = append(*s, -6)
		for k, o := range sides {
			if k != i && !slices.Equal(*o, rest[k]) {
				t.Errorf("side %d changed with side %d", k, i)
			}
		}
	}
	clear(first[:cap(first)])
	if !same(second, want) || !same(Norm(l), want) || !slices.Equal(row, kept) {
		t.Error("an answer shares memory")
	}
	again, _ := roomy()
	if !same(l, again) {
		t.Error("the rules that were handed in share memory with an answer")
	}
}

// One rule handed in again and again, whose sides are one list, is told in memory of its own.
func TestNormOfSidesInOneMemory(t *testing.T) {
	one := word("aaaaaaaa")
	l := []api.Rule{
		{Left: one, Right: one[:1], Cost: 1}, {Left: one, Right: one[:2], Cost: 1},
		{Left: one[:2], Right: one, Cost: 1}, {Left: one, Right: one[:1], Cost: 1},
	}
	got := Norm(l)
	got[0].Right[0] = 98
	checkNorm(t, got[:1], []api.Rule{from("aa", "baaaaaaa", 1)})
	checkNorm(t, got[1:], []api.Rule{from("aaaaaaaa", "a", 1), from("aaaaaaaa", "aa", 1)})
	if !slices.Equal(one, word("aaaaaaaa")) {
		t.Errorf("what was handed in became %v", one)
	}
}
