package order

import (
	"math"
	"slices"
	"testing"
)

// word is a text's signs.
func word(s string) []int {
	l := []int{}
	for _, r := range s {
		l = append(l, int(r))
	}
	return l
}

func list(l ...string) [][]int {
	out := [][]int{}
	for _, s := range l {
		out = append(out, word(s))
	}
	return out
}

func deep(l [][]int) [][]int {
	out := [][]int{}
	for _, w := range l {
		out = append(out, append([]int{}, w...))
	}
	return out
}

func same(a, b [][]int) bool {
	return slices.EqualFunc(a, b, slices.Equal[[]int])
}

// signs are numbers at which something changes: those that wrap round if they are taken from each other, those that have the same low bits, and those that are no signs.
func signs() []int {
	return []int{math.MinInt, -1 << 32, -2, -1, 0, 1, 97, 98, 1 << 16, 1114111, 1114112, 1 << 32, 1<<32 + 1, math.MaxInt - 1, math.MaxInt}
}

// all are the words of at most so many signs of these, the shorter ones first.
func all(signs []int, long int) [][]int {
	out := [][]int{{}}
	from := 0
	for range long {
		end := len(out)
		for _, w := range out[from:end] {
			for _, s := range signs {
				out = append(out, append(slices.Clone(w), s))
			}
		}
		from = end
	}
	return out
}

func edges() [][]int {
	return append(all([]int{1, 2, 3}, 3), all(signs(), 2)...)
}

// shuffled is the same list in another order, which hangs on the seed alone.
func shuffled(l [][]int, seed uint64) [][]int {
	out := deep(l)
	for i := len(out) - 1; i > 0; i-- {
		seed = seed*6364136223846793005 + 1442695040888963407
		j := int(seed >> 33 % uint64(i+1))
		out[i], out[j] = out[j], out[i]
	}
	return out
}

// slowCommon and slowLess say what the chapter says, word by word.
func slowCommon(a, b []int) int {
	if len(a) == 0 || len(b) == 0 || a[0] != b[0] {
		return 0
	}
	return 1 + slowCommon(a[1:], b[1:])
}

func slowLess(a, b []int) bool {
	switch {
	case len(b) == 0:
		return false
	case len(a) == 0:
		return true
	case a[0] == b[0]:
		return slowLess(a[1:], b[1:])
	}
	return a[0] < b[0]
}

// slowFind asks every word.
func slowFind(l [][]int, w []int) (int, bool) {
	ahead, is := 0, false
	for _, x := range l {
		if slowLess(x, w) {
			ahead++
		}
		if slices.Equal(x, w) {
			is = true
		}
	}
	return ahead, is
}

// slowSort puts each word behind those that are ahead of it, unless it is there.
func slowSort(l [][]int) [][]int {
	out := [][]int{}
	for _, w := range l {
		if at, is := slowFind(out, w); !is {
			out = slices.Insert(out, at, w)
		}
	}
	return out
}

func checkSort(t *testing.T, l, want [][]int) {
	t.Helper()
	if got := Sort(l); !same(got, want) {
		t.Errorf("Sort(%v) is %v, want %v", l, got, want)
	}
}

func checkFind(t *testing.T, l [][]int, w []int, at int, is bool) {
	t.Helper()
	if gotAt, gotIs := Find(l, w); gotAt != at || gotIs != is {
		t.Errorf("Find(%v, %v) is %d, %t, want %d, %t", l, w, gotAt, gotIs, at, is)
	}
}

// P3.1

func TestLessAndCommon(t *testing.T) {
	for _, x := range []struct {
		a, b   string
		less   bool
		common int
	}{
		{"", "", false, 0},
		{"", "a", true, 0},
		{"a", "", false, 0},
		{"a", "a", false, 1},
		{"a", "b", true, 0},
		{"b", "a", false, 0},
		{"a", "ab", true, 1},
		{"ab", "a", false, 1},
		{"ab", "abc", true, 2},
		{"abc", "ab", false, 2},
		{"ab", "ac", true, 1},
		{"ac", "ab", false, 1},
		{"ab", "b", true, 0},
		{"b", "ab", false, 0},
		{"abc", "b", true, 0},
		{"b", "aaaa", false, 0},
		{"abc", "abd", true, 2},
		{"abca", "abdz", true, 2},
		{"aba", "abb", true, 2},
		{"bab", "bba", true, 1},
		{"abab", "abab", false, 4},
		// Behind the first place where they differ nothing counts, though it is alike, or turned.
		{"axc", "ayc", true, 1},
		{"azc", "ayd", false, 1},
		{"A", "a", true, 0},
		{"é", "z", false, 0},
		{"€", "é", false, 0},
		{"😀", "\uffff", false, 0},
	} {
		a, b := word(x.a), word(x.b)
		if got := Less(a, b); got != x.less {
			t.Errorf("Less(%q, %q) is %t", x.a, x.b, got)
		}
		if got := Common(a, b); got != x.common {
			t.Errorf("Common(%q, %q) is %d, want %d", x.a, x.b, got, x.common)
		}
	}
}

func TestWordsWithoutSignsAreAlike(t *testing.T) {
	for _, none := range [][]int{nil, {}, word("ab")[:0]} {
		for _, other := range [][]int{nil, {}} {
			if Less(none, other) || Common(none, other) != 0 {
				t.Error("words without signs differ")
			}
		}
		if !Less(none, []int{math.MinInt}) || Less([]int{math.MinInt}, none) {
			t.Error("a word without signs does not stand ahead")
		}
	}
}

// Numbers that are no signs are in order, too, however far from each other.
func TestLessOfEdges(t *testing.T) {
	l := signs()
	for i, a := range l {
		for j, b := range l {
			if got := Less([]int{7, a}, []int{7, b, 0}); got != (i <= j) {
				t.Errorf("7 %d, 7 %d 0: %t", a, b, got)
			}
			if got := Less([]int{a, 9}, []int{b, 8}); got != (i < j) {
				t.Errorf("%d 9, %d 8: %t", a, b, got)
			}
		}
	}
	for _, a := range edges() {
		for _, b := range edges() {
			if got := Less(a, b); got != slowLess(a, b) {
				t.Errorf("Less(%v, %v) is %t", a, b, got)
			}
			if got := Common(a, b); got != slowCommon(a, b) {
				t.Errorf("Common(%v, %v) is %d", a, b, got)
			}
		}
	}
}

// R1: words that differ far behind.
func TestLongWords(t *testing.T) {
	a := make([]int, 1<<20)
	b := slices.Clone(a)
	if Less(a, b) || Common(a, b) != len(a) {
		t.Error("long words that are alike")
	}
	b[len(b)-1] = 1
	if !Less(a, b) || Less(b, a) || Common(a, b) != len(a)-1 {
		t.Error("long words that differ at their end")
	}
	if !Less(a, append(a[:len(a):len(a)], 0)) || Common(a, a[:1000]) != 1000 {
		t.Error("a long word's beginning")
	}
}

// P3.2

func TestSort(t *testing.T) {
	checkSort(t, list("b", "a", "ab", "a"), list("a", "ab", "b"))
	checkSort(t, nil, nil)
	checkSort(t, list(), nil)
	checkSort(t, list(""), list(""))
	checkSort(t, [][]int{nil, {}, nil}, list(""))
	checkSort(t, list("a"), list("a"))
	checkSort(t, list("a", "a"), list("a"))
	checkSort(t, list("a", "a", "a", "a"), list("a"))
	checkSort(t, list("a", "b", "a"), list("a", "b"))
	checkSort(t, list("b", "b", "a", "a"), list("a", "b"))
	checkSort(t, list("a", "", "a", ""), list("", "a"))
	checkSort(t, list("abc", "ab", "a", ""), list("", "a", "ab", "abc"))
	checkSort(t, list("", "a", "ab", "abc"), list("", "a", "ab", "abc"))
	checkSort(t, list("b", "aaaa", "ab", "c", "aa"), list("aa", "aaaa", "ab", "b", "c"))
	checkSort(t, list("z", "é", "a", "😀", "€"), list("a", "z", "é", "€", "😀"))
	// These differ, though they look alike if one sign runs into the next one.
	checkSort(t, [][]int{{1, 23}, {12, 3}, {1, 2, 3}, {123}}, [][]int{{1, 2, 3}, {1, 23}, {12, 3}, {123}})
	checkSort(t, [][]int{{math.MaxInt}, {0}, {-1}, {math.MinInt}, {1}}, [][]int{{math.MinInt}, {-1}, {0}, {1}, {math.MaxInt}})
}

func TestSortOfEdges(t *testing.T) {
	l := edges()
	want := slowSort(l)
	for seed := range uint64(20) {
		s := shuffled(l, seed)
		if got := Sort(s); !same(got, want) {
			t.Fatalf("of seed %d: %v", seed, got)
		}
		if got := Sort(append(s, deep(s)...)); !same(got, want) {
			t.Fatalf("of seed %d, each more than once: %v", seed, got)
		}
	}
}

// Every list of at most five words of these.
func TestSortOfAllShortLists(t *testing.T) {
	words := list("", "a", "ab", "b", "ba")
	for _, picks := range all([]int{0, 1, 2, 3, 4}, 5) {
		var l [][]int
		for _, p := range picks {
			l = append(l, words[p])
		}
		checkSort(t, l, slowSort(l))
	}
}

func TestSortedWordsRise(t *testing.T) {
	for seed := range uint64(20) {
		got := Sort(shuffled(edges(), seed))
		for i := 1; i < len(got); i++ {
			if !Less(got[i-1], got[i]) {
				t.Errorf("%v does not stand ahead of %v", got[i-1], got[i])
			}
		}
	}
}

func TestFind(t *testing.T) {
	for _, x := range []struct {
		w  string
		at int
		is bool
	}{
		{"", 0, false},
		{"A", 0, false},
		{"a", 0, true},
		{"aa", 1, false},
		{"ab", 1, true},
		{"aba", 2, false},
		{"abc", 2, false},
		{"ac", 2, false},
		{"b", 2, true},
		{"ba", 3, false},
		{"c", 3, false},
		{"😀", 3, false},
	} {
		checkFind(t, list("a", "ab", "b"), word(x.w), x.at, x.is)
	}
	for _, none := range [][][]int{nil, {}} {
		checkFind(t, none, nil, 0, false)
		checkFind(t, none, []int{}, 0, false)
		checkFind(t, none, word("a"), 0, false)
	}
	checkFind(t, list(""), nil, 0, true)
	checkFind(t, list(""), word("a"), 1, false)
	checkFind(t, [][]int{nil}, []int{}, 0, true)
	checkFind(t, list("", "a"), nil, 0, true)
	checkFind(t, list("", "a"), word("a"), 1, true)
	checkFind(t, list("a"), nil, 0, false)
	checkFind(t, list("b"), word("a"), 0, false)
	checkFind(t, list("b"), word("b"), 0, true)
	checkFind(t, list("b"), word("c"), 1, false)
	// A word's beginning, and a word that it begins, are not the word.
	checkFind(t, list("abc"), word("ab"), 0, false)
	checkFind(t, list("abc"), word("abcd"), 1, false)
}

// Lists of every length up to so many, each with the words that are there, and those around and between.
func TestFindOfAllLengths(t *testing.T) {
	for n := range 40 {
		var l [][]int
		for i := range n {
			l = append(l, []int{2*i + 1})
		}
		for i := range 2*n + 2 {
			checkFind(t, l, []int{i}, i/2, i%2 == 1 && i < 2*n)
		}
		checkFind(t, l, nil, 0, false)
		checkFind(t, l, []int{-1, 5}, 0, false)
		checkFind(t, l, []int{2 * n, 5}, n, false)
	}
}

func TestFindOfEdges(t *testing.T) {
	whole := Sort(edges())
	for every := 1; every < 5; every++ {
		for from := range every {
			var l [][]int
			for i := from; i < len(whole); i += every {
				l = append(l, whole[i])
			}
			for _, w := range whole {
				at, is := slowFind(l, w)
				checkFind(t, l, w, at, is)
			}
		}
	}
}

// R1: of words that do not rise there is some answer, within the list.
func TestFindOfWhatDoesNotRise(t *testing.T) {
	words := list("", "a", "ab", "b")
	for _, picks := range all([]int{0, 1, 2, 3}, 4) {
		var l [][]int
		for _, p := range picks {
			l = append(l, words[p])
		}
		for _, w := range append(words, word("c"), word("aa")) {
			if at, _ := Find(l, w); at < 0 || at > len(l) {
				t.Errorf("Find(%v, %v) is %d", l, w, at)
			}
		}
	}
}

// R1: many words, in every order that may be slow.
func TestSortOfMany(t *testing.T) {
	const n = 100000
	var want [][]int
	for i := range n {
		want = append(want, []int{1, 1, i, 7})
	}
	turned := deep(want)
	slices.Reverse(turned)
	alike := slices.Repeat([][]int{{1, 2, 3}}, n)
	for _, l := range [][][]int{want, turned, shuffled(want, 5)} {
		if got := Sort(l); !same(got, want) {
			t.Error("many words are not sorted")
		}
	}
	checkSort(t, alike, [][]int{{1, 2, 3}})
	for i := range want {
		if at, is := Find(want, want[i]); at != i || !is {
			t.Fatalf("%d: %d, %t", i, at, is)
		}
	}
}

// P3.3

func TestOfTwoUnlikeWordsOneStandsAhead(t *testing.T) {
	l := edges()
	for _, a := range l {
		for _, b := range l {
			ahead, behind, alike := Less(a, b), Less(b, a), slices.Equal(a, b)
			if alike && (ahead || behind) || !alike && ahead == behind {
				t.Errorf("%v, %v: %t, the other way round %t", a, b, ahead, behind)
			}
		}
	}
}

func TestWhatIsAheadOfOneAheadIsAhead(t *testing.T) {
	l := append(all([]int{1, 2}, 3), all([]int{math.MinInt, 0, math.MaxInt}, 2)...)
	for _, a := range l {
		for _, b := range l {
			for _, c := range l {
				if Less(a, b) && Less(b, c) && !Less(a, c) {
					t.Errorf("%v, %v, %v", a, b, c)
				}
			}
		}
	}
}

func TestSortedAgainNothingIsChanged(t *testing.T) {
	for seed := range uint64(20) {
		once := Sort(shuffled(edges(), seed))
		checkSort(t, once, once)
	}
	for _, l := range [][][]int{nil, list(""), list("b", "a", "ab", "a"), list("a", "a")} {
		once := Sort(l)
		checkSort(t, once, once)
	}
}

// R3

// roomy are words that lie side by side in one row, with spare room, and the row.
func roomy() ([][]int, []int) {
	row := []int{3, 1, 2, 1, 3, 1, 9, 9, 9, 9}
	l := [][]int{row[0:2], row[1:3], row[3:3], row[3:5], row[4:6], row[1:3], {7}, {8}}
	return l[:6], row
}

func TestNothingIsChanged(t *testing.T) {
	l, row := roomy()
	lists, kept := deep(l[:8]), slices.Clone(row)
	sorted := Sort(l)
	Less(l[0], l[1])
	Common(l[0], l[4])
	Find(l, l[0])
	Find(sorted, l[0])
	if !same(l[:8], lists) || !slices.Equal(row, kept) {
		t.Errorf("%v of %v became %v of %v", lists, kept, l[:8], row)
	}
	if &l[0][0] != &row[0] || &l[5][0] != &row[1] {
		t.Error("the list's words are others")
	}
}

// What is answered, changed up to its spare room's end, changes nothing else.
func TestAnswersShareNoMemory(t *testing.T) {
	l, row := roomy()
	kept := slices.Clone(row)
	want := slowSort(deep(l))
	first, second := Sort(l), Sort(l)
	for i := range first {
		rest := deep(first)
		w := first[i][:cap(first[i])]
		for j := range w {
			w[j] = -5
		}
		first[i] = append(first[i], -6)
		for k := range first {
			if k != i && !slices.Equal(first[k], rest[k]) {
				t.Errorf("word %d changed with word %d", k, i)
			}
		}
	}
	clear(first[:cap(first)])
	if !slices.Equal(row, kept) || !same(second, want) || !same(Sort(l), want) {
		t.Error("an answer shares memory")
	}
	again, _ := roomy()
	if !same(l, again) {
		t.Error("the list that was handed in shares memory with an answer")
	}
}

// What is handed in is not kept: changed behind the call, it changes no answer.
func TestNothingIsKept(t *testing.T) {
	l, row := roomy()
	want := slowSort(deep(l))
	got := Sort(l)
	for i := range row {
		row[i] = -1
	}
	clear(l)
	if !same(got, want) {
		t.Errorf("%v became %v", want, got)
	}
	sorted := Sort(got)
	got[0], got[1] = got[1], got[0]
	got[2][0] = 99
	if !same(sorted, want) {
		t.Errorf("of what was sorted: %v became %v", want, sorted)
	}
}
