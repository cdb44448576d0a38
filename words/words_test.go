package words

import (
	"bytes"
	"math"
	"slices"
	"strings"
	"testing"
	"unicode/utf8"

	"spellwright/api"
	"spellwright/order"
)

// word is a text's signs.
func word(s string) []int {
	l := []int{}
	for _, r := range s {
		l = append(l, int(r))
	}
	return l
}

func wordsOf(texts ...string) [][]int {
	out := [][]int{}
	for _, s := range texts {
		out = append(out, word(s))
	}
	return out
}

func deep(l [][]int) [][]int {
	out := [][]int{}
	for _, w := range l {
		out = append(out, slices.Clone(w))
	}
	return out
}

func alike(a, b [][]int) bool {
	return slices.EqualFunc(a, b, func(x, y []int) bool { return slices.Compare(x, y) == 0 })
}

// shuffled is the same list in another order, which hangs on the seed alone.
func shuffled[T any](l []T, seed uint64) []T {
	out := slices.Clone(l)
	for i := len(out) - 1; i > 0; i-- {
		seed = seed*6364136223846793005 + 1442695040888963407
		j := int(seed >> 33 % uint64(i+1))
		out[i], out[j] = out[j], out[i]
	}
	return out
}

// lists are the lists of at most so many of these, the shorter ones first.
func lists[T any](of []T, long int) [][]T {
	out := [][]T{{}}
	begin := 0
	for range long {
		end := len(out)
		for _, l := range out[begin:end] {
			for _, x := range of {
				out = append(out, append(slices.Clone(l), x))
			}
		}
		begin = end
	}
	return out
}

// distinct are so many unlike words, that rise, of one sign and of more, of one byte and of more.
func distinct(n int) []string {
	out := []string{}
	for i := range n {
		s := string(rune(200 + i/7))
		if i%7 > 0 {
			s += string(rune(100 + i%7))
		}
		out = append(out, s)
	}
	return out
}

// file are lines, each with a byte 10 behind.
func file(lines ...string) string {
	s := ""
	for _, l := range lines {
		s += l + "\n"
	}
	return s
}

// slowFit says what the chapter says of a word that fits.
func slowFit(w []int) bool {
	for i, n := range w {
		if n < 0 || n > 1114111 || n >= 55296 && n <= 57343 || n == 9 || n == 10 || n == 32 || n == 35 && i == 0 {
			return false
		}
	}
	return len(w) >= 1 && len(w) <= 20
}

// slowWrite says what the chapter says of a list.
func slowWrite(l [][]int) (string, api.Errno) {
	if len(l) > 300 {
		return "", api.ErrMany
	}
	s := ""
	for i, w := range l {
		if !slowFit(w) || i > 0 && slices.Compare(l[i-1], w) >= 0 {
			return "", api.ErrLong
		}
		for _, n := range w {
			s += string(rune(n))
		}
		s += "\n"
	}
	return s, api.OK
}

// slowRead says what the chapter says of a list's bytes.
func slowRead(s string) ([][]int, int, api.Errno) {
	lines := strings.Split(s, "\n")
	if lines[len(lines)-1] == "" {
		lines = lines[:len(lines)-1]
	}
	found := map[string]bool{}
	for i, l := range lines {
		fields := strings.FieldsFunc(l, func(r rune) bool { return r == 32 || r == 9 })
		if len(fields) == 0 || fields[0][0] == '#' {
			continue
		}
		switch {
		case len(fields) > 1:
			return nil, i, api.ErrCount
		case !utf8.ValidString(fields[0]):
			return nil, i, api.ErrUtf
		case utf8.RuneCountInString(fields[0]) > 20:
			return nil, i, api.ErrLong
		}
		found[fields[0]] = true
		if len(found) > 300 {
			return nil, i, api.ErrMany
		}
	}
	out := [][]int{}
	for s := range found {
		out = append(out, word(s))
	}
	slices.SortFunc(out, slices.Compare)
	return out, -1, api.OK
}

func checkFit(t *testing.T, w []int, want bool) {
	t.Helper()
	if got := Fit(w); got != want {
		t.Errorf("Fit(%v) is %t", w, got)
	}
}

func checkWrite(t *testing.T, l [][]int, want string) {
	t.Helper()
	if b, err := Write(l); err != api.OK || string(b) != want {
		t.Errorf("Write(%v) is %q, %d, want %q", l, b, err, want)
	}
}

// checkUnwritten holds an error of Write, and the empty answer beside it, against what is to be told.
func checkUnwritten(t *testing.T, l [][]int, fault api.Errno) {
	t.Helper()
	if b, err := Write(l); err != fault || len(b) > 0 {
		t.Errorf("Write(%v) is %q, %d, want %d", l, b, err, fault)
	}
}

// checkSlowWrite holds what is written against the slow reckoning.
func checkSlowWrite(t *testing.T, l [][]int) {
	t.Helper()
	want, fault := slowWrite(l)
	if b, err := Write(l); err != fault || string(b) != want {
		t.Errorf("Write(%v) is %q, %d, want %q, %d", l, b, err, want, fault)
	}
}

func checkRead(t *testing.T, s string, want ...string) {
	t.Helper()
	if got, at, err := Read([]byte(s)); err != api.OK || at != -1 || !alike(got, wordsOf(want...)) {
		t.Errorf("Read(%q) is %v, %d, %d, want %v", s, got, at, err, wordsOf(want...))
	}
}

// checkFault holds an error and its line, and the empty answer beside it, against what is to be told.
func checkFault(t *testing.T, s string, line int, fault api.Errno) {
	t.Helper()
	if got, at, err := Read([]byte(s)); err != fault || at != line || len(got) > 0 {
		t.Errorf("Read(%q) is %v, %d, %d, want line %d, %d", s, got, at, err, line, fault)
	}
}

// checkSlow holds what is read against the slow reckoning.
func checkSlow(t *testing.T, s string) {
	t.Helper()
	want, line, fault := slowRead(s)
	if got, at, err := Read([]byte(s)); err != fault || at != line || !alike(got, want) {
		t.Errorf("Read(%q) is %v, %d, %d, want %v, %d, %d", s, got, at, err, want, line, fault)
	}
}

// P9.1: Fit

func TestFitOfEachLength(t *testing.T) {
	for _, w := range [][]int{nil, {}, word("ab")[:0]} {
		checkFit(t, w, false)
	}
	for _, n := range []int{0, 1, 97, 228, 8364, api.MaxRune} {
		for long := range 50 {
			checkFit(t, slices.Repeat([]int{n}, long), long >= 1 && long <= 20)
		}
		checkFit(t, slices.Repeat([]int{n}, 100000), false)
	}
}

// edges are numbers at which it changes whether they may be in a word, and some beside them.
func edges() []int {
	return []int{
		math.MinInt, math.MinInt32, -1, 0, 1, 8, 9, 10, 11, 13, 31, 32, 33, 34, 35, 36, 95, 97, 127, 128, 133, 160, 2047, 2048, 8232, 12288,
		55295, 55296, 56000, 57343, 57344, 65535, 65536, 1114111, 1114112, math.MaxInt32, 1 << 32, 1<<32 + 97, math.MaxInt,
	}
}

// Each edge at each place of words of each length, and among other edges.
func TestFitOfEachNumber(t *testing.T) {
	for _, n := range edges() {
		checkFit(t, []int{n}, slowFit([]int{n}))
		for long := 1; long <= 21; long++ {
			for at := range long {
				w := slices.Repeat([]int{97}, long)
				w[at] = n
				checkFit(t, w, slowFit(w))
			}
		}
	}
	for _, w := range lists(edges(), 3) {
		checkFit(t, w, slowFit(w))
	}
	for n := -10; n < api.MaxRune+10; n++ {
		if w := []int{n}; Fit(w) != slowFit(w) {
			t.Errorf("Fit(%v) is %t", w, Fit(w))
		}
		if w := []int{97, n}; Fit(w) != slowFit(w) {
			t.Errorf("Fit(%v) is %t", w, Fit(w))
		}
	}
}

func TestFitOfBlanksAndHashes(t *testing.T) {
	for _, n := range []int{9, 10, 32, -1, api.LowHalf, api.HighHalf, api.MaxRune + 1} {
		checkFit(t, []int{n}, false)
		checkFit(t, []int{n, 97, 98}, false)
		checkFit(t, []int{97, n, 98}, false)
		checkFit(t, []int{97, 98, n}, false)
	}
	checkFit(t, []int{35}, false)
	checkFit(t, []int{35, 97}, false)
	checkFit(t, []int{97, 35}, true)
	checkFit(t, []int{97, 35, 98}, true)
	checkFit(t, append(slices.Repeat([]int{97}, 19), 35), true)
	checkFit(t, []int{13}, true)
	checkFit(t, []int{0}, true)
	checkFit(t, []int{160}, true)
}

// P9.1: Write

func TestWrite(t *testing.T) {
	for _, l := range [][][]int{nil, {}, wordsOf("ab")[:0]} {
		checkWrite(t, l, "")
	}
	checkWrite(t, wordsOf("a"), "a\n")
	checkWrite(t, wordsOf("a", "b"), "a\nb\n")
	checkWrite(t, wordsOf("a", "ab", "abc", "b"), "a\nab\nabc\nb\n")
	checkWrite(t, wordsOf("a#", "a##", "b#c"), "a#\na##\nb#c\n")
	checkWrite(t, wordsOf("\x00", "\r", "z", "ä", "€", "\uffff", "😀"), "\x00\n\r\nz\n\xc3\xa4\n\xe2\x82\xac\n\xef\xbf\xbf\n\xf0\x9f\x98\x80\n")
	checkWrite(t, [][]int{slices.Repeat([]int{api.MaxRune}, 20)}, strings.Repeat("\xf4\x8f\xbf\xbf", 20)+"\n")
}

func TestWriteOfEachNumberOfWords(t *testing.T) {
	for n := range 320 {
		l := wordsOf(distinct(n)...)
		if n <= 300 {
			checkWrite(t, l, file(distinct(n)...))
			continue
		}
		checkUnwritten(t, l, api.ErrMany)
		checkWrite(t, l[n-300:], file(distinct(n)[n-300:]...))
	}
	checkUnwritten(t, wordsOf(distinct(100000)...), api.ErrMany)
}

// misfits are words that do not fit.
func misfits() [][]int {
	return [][]int{
		nil, {}, {9}, {10}, {32}, {35}, word("#a"), word("a b"), word("ab\n"), word("\tab"), word("abcdefghijklmnopqrstu"),
		{-1}, {97, api.LowHalf}, {api.HighHalf, 97}, {97, api.MaxRune + 1, 97}, {1<<32 + 97}, {math.MinInt}, {math.MaxInt}, make([]int, 1000),
	}
}

// One that does not fit, at each place, and where it stands in order.
func TestWriteOfWordsThatDoNotFit(t *testing.T) {
	for _, bad := range misfits() {
		checkUnwritten(t, [][]int{bad}, api.ErrLong)
		for _, n := range []int{1, 2, 20, 299} {
			for at := 0; at <= n; at++ {
				checkUnwritten(t, slices.Insert(wordsOf(distinct(n)...), at, bad), api.ErrLong)
			}
		}
		l := append(wordsOf(distinct(5)...), bad)
		slices.SortFunc(l, slices.Compare)
		checkUnwritten(t, l, api.ErrLong)
		// With too many words that is what is told.
		checkUnwritten(t, slices.Insert(wordsOf(distinct(300)...), 0, bad), api.ErrMany)
		checkUnwritten(t, slices.Insert(wordsOf(distinct(300)...), 150, bad), api.ErrMany)
		checkUnwritten(t, append(wordsOf(distinct(300)...), bad), api.ErrMany)
		checkUnwritten(t, slices.Repeat([][]int{bad}, 301), api.ErrMany)
	}
}

func TestWriteOfWordsThatDoNotRise(t *testing.T) {
	for _, l := range [][]string{{"b", "a"}, {"a", "a"}, {"ab", "a"}, {"a", "b", "b"}, {"a", "c", "b"}, {"b", "a", "c"}, {"a", "b", "a"}, {"ä", "z"}, {"😀", "\uffff"}} {
		checkUnwritten(t, wordsOf(l...), api.ErrLong)
	}
	checkWrite(t, wordsOf("\uffff", "😀"), "\uffff\n😀\n")
	for _, n := range []int{2, 3, 50, 300} {
		back := wordsOf(distinct(n)...)
		slices.Reverse(back)
		checkUnwritten(t, back, api.ErrLong)
		for at := range n - 1 {
			l := wordsOf(distinct(n)...)
			l[at], l[at+1] = l[at+1], l[at]
			checkUnwritten(t, l, api.ErrLong)
			again := wordsOf(distinct(n)...)
			again[at+1] = slices.Clone(again[at])
			checkUnwritten(t, again, api.ErrLong)
			again[at+1] = again[at]
			checkUnwritten(t, again, api.ErrLong)
		}
	}
	checkUnwritten(t, append(wordsOf(distinct(300)...), word(distinct(300)[299])), api.ErrMany)
	checkUnwritten(t, slices.Repeat(wordsOf("a"), 300), api.ErrLong)
	checkUnwritten(t, slices.Repeat(wordsOf("a"), 301), api.ErrMany)
}

func TestWriteOfAllShortLists(t *testing.T) {
	l := wordsOf("a", "ab", "b", "ä", "a#", "", "#", "a b", "\r")
	l = append(l, []int{-1}, []int{97, api.LowHalf})
	for _, x := range lists(l, 4) {
		checkSlowWrite(t, x)
	}
}

// P9.2

func TestReadOfNothing(t *testing.T) {
	for _, b := range [][]byte{nil, {}, []byte("ab")[:0]} {
		if got, at, err := Read(b); err != api.OK || at != -1 || len(got) > 0 {
			t.Errorf("Read(%q) is %v, %d, %d", b, got, at, err)
		}
	}
	for _, s := range []string{"\n", "\n\n\n", " ", " \n", "\t \n\n", "#", "#\n", "# a\n", "#a", "\n#a b\n", "##\n#\xff", " # a"} {
		checkRead(t, s)
	}
}

func TestReadOfOneLine(t *testing.T) {
	for _, s := range []string{"a", "ab", "ba", "aab", "a#", "a#b", "_", "\x00", "\r", "a\r", "\v\f", "\u00a0", "\u3000", "ä", "€uro", "\uffff", "😀", "BASE", strings.Repeat("a", 20)} {
		checkRead(t, s, s)
		checkRead(t, s+"\n", s)
		checkRead(t, s+"\n\n", s)
		for _, b := range []string{" ", "\t", "  ", "\t\t", " \t ", "\t \t"} {
			checkRead(t, b+s, s)
			checkRead(t, s+b, s)
			checkRead(t, b+s+b, s)
			checkRead(t, b+s+b+"\n", s)
		}
	}
}

func TestReadOfBareLines(t *testing.T) {
	for _, bare := range []string{"", " ", "\t", "\t  \t", "#", "#a", "# a", " #a b c", "\t# ", "#\xff", "##", "# " + strings.Repeat("a", 30)} {
		checkRead(t, bare+"\nb\na", "a", "b")
		checkRead(t, "b\n"+bare+"\na", "a", "b")
		checkRead(t, "b\na\n"+bare, "a", "b")
		checkRead(t, "b\na\n"+bare+"\n", "a", "b")
		checkRead(t, file(bare, "b", bare, bare, "a", bare), "a", "b")
		checkFault(t, file(bare, bare, "a", bare, "a b", bare), 4, api.ErrCount)
	}
	// A # that does not begin the first field is a word's own.
	checkRead(t, "a#\nb#c\n", "a#", "b#c")
	checkFault(t, "a #", 0, api.ErrCount)
	checkFault(t, "a # b", 0, api.ErrCount)
}

func TestReadOfSeveralWords(t *testing.T) {
	checkRead(t, "b\na\nb\n", "a", "b")
	checkRead(t, "abc\nb\nab\na\n", "a", "ab", "abc", "b")
	checkRead(t, "b\na\nb\na\nb\nb\na", "a", "b")
	checkRead(t, "😀\n\uffff\n€\nä\nz\n\r\n\x00", "\x00", "\r", "z", "ä", "€", "\uffff", "😀")
	for n := range 320 {
		l := distinct(n)
		back := slices.Clone(l)
		slices.Reverse(back)
		for _, s := range []string{file(l...), file(back...), file(shuffled(l, uint64(n))...), strings.Join(shuffled(l, uint64(n+7)), "\n")} {
			if n <= 300 {
				checkRead(t, s, l...)
			} else {
				checkFault(t, s, 300, api.ErrMany)
			}
		}
	}
}

func TestReadOfTheSameWordAgain(t *testing.T) {
	for _, n := range []int{2, 3, 299, 300, 301, 302, 1000, 5000} {
		checkRead(t, strings.Repeat("ab\n", n), "ab")
		checkRead(t, strings.Repeat("ab\n a\t\n", n), "a", "ab")
		checkFault(t, strings.Repeat("ab\n", n)+"a b", n, api.ErrCount)
	}
}

// wrongLines are lines of each error that a line has by itself.
func wrongLines() map[string]api.Errno {
	l := map[string]api.Errno{
		"a b": api.ErrCount, "a\tb": api.ErrCount, "a a": api.ErrCount, " a b c ": api.ErrCount, "a #": api.ErrCount, "a b " + strings.Repeat("c ", 500): api.ErrCount,
		"a \xff": api.ErrCount, "\xff a": api.ErrCount, "\xff \xff": api.ErrCount, strings.Repeat("a", 21) + " b": api.ErrCount, "b " + strings.Repeat("a", 21): api.ErrCount,
		"\xff": api.ErrUtf, "a\xff": api.ErrUtf, "\xffa": api.ErrUtf, "a\x80b": api.ErrUtf, "\xc3": api.ErrUtf, "a\xc3": api.ErrUtf, "\xc3a": api.ErrUtf, "\xe2\x82": api.ErrUtf,
		"\xf0\x9f\x98": api.ErrUtf, "\xf0\x9f\x98 ": api.ErrUtf, "\xed\xa0\x80": api.ErrUtf, "\xf4\x90\x80\x80": api.ErrUtf, "\xc0\x80": api.ErrUtf, "\xe0\x80\x80": api.ErrUtf, "\xf8\x88\x80\x80\x80": api.ErrUtf,
		strings.Repeat("a", 21) + "\xff": api.ErrUtf, "\xff" + strings.Repeat("a", 21): api.ErrUtf, strings.Repeat("ä", 40) + "\xc3": api.ErrUtf,
		strings.Repeat("a", 21): api.ErrLong, strings.Repeat("a", 22): api.ErrLong, strings.Repeat("ab", 500): api.ErrLong, " " + strings.Repeat("b", 21) + "\t": api.ErrLong,
	}
	for _, s := range []string{"ä", "€", "😀"} {
		l[strings.Repeat(s, 21)] = api.ErrLong
		l[strings.Repeat(s, 20)+"a"] = api.ErrLong
	}
	return l
}

func TestReadOfWrongLines(t *testing.T) {
	good := []string{"b", "ab", "", "# x", "b", "a", " ", "äöü"}
	for bad, fault := range wrongLines() {
		checkFault(t, bad, 0, fault)
		for at := 0; at <= len(good); at++ {
			lines := slices.Insert(slices.Clone(good), at, bad)
			checkFault(t, file(lines...), at, fault)
			checkFault(t, strings.Join(lines, "\n"), at, fault)
			for other := range wrongLines() {
				checkFault(t, file(slices.Insert(slices.Clone(lines), at+1, other)...), at, fault)
				checkFault(t, file(append(slices.Clone(lines), other)...), at, fault)
			}
		}
		checkFault(t, strings.Repeat("\n", 1000)+bad, 1000, fault)
		checkRead(t, file(append(good, "#"+bad)...), "a", "ab", "b", "äöü")
	}
}

// How many signs a word has is asked, not how many bytes.
func TestReadOfLongWords(t *testing.T) {
	for _, s := range []string{"a", "ä", "€", "😀", "\x00", "\U0010ffff"} {
		for n := 1; n < 45; n++ {
			w := strings.Repeat(s, n)
			if n <= 20 {
				checkRead(t, "b\n"+w+"\nb", order2("b", w)...)
			} else {
				checkFault(t, "b\n"+w+"\nb", 1, api.ErrLong)
			}
		}
	}
	checkRead(t, strings.Repeat("aä€😀", 5), strings.Repeat("aä€😀", 5))
	checkFault(t, strings.Repeat("aä€😀", 5)+"b", 0, api.ErrLong)
	checkRead(t, strings.Repeat(" ", 500)+"a"+strings.Repeat("\t", 500), "a")
}

// order2 are two words in order.
func order2(a, b string) []string {
	l := []string{a, b}
	slices.Sort(l)
	return slices.Compact(l)
}

func TestReadOfAsManyWordsAsMayBe(t *testing.T) {
	l := distinct(301)
	checkRead(t, file(l[:300]...), l[:300]...)
	checkRead(t, file(l[1:]...), l[1:]...)
	checkFault(t, file(l...), 300, api.ErrMany)
	checkFault(t, strings.Join(l, "\n"), 300, api.ErrMany)
	checkFault(t, "\n#\n"+strings.Join(l, "\n\n"), 602, api.ErrMany)
	checkFault(t, file(append(l, l...)...), 300, api.ErrMany)
	checkRead(t, file(slices.Concat(l[:300], l[:300], l[:300])...), l[:300]...)
	checkRead(t, file(shuffled(slices.Concat(l[:300], l[:300], l[:100]), 5)...), l[:300]...)
	checkRead(t, file(append(slices.Repeat(l[:1], 500), l[:300]...)...), l[:300]...)
	checkFault(t, file(slices.Concat(l[:300], l[:300], l[300:])...), 600, api.ErrMany)
	checkFault(t, file(slices.Concat(l[:300], l[7:8], l[300:], l[:300])...), 301, api.ErrMany)
	checkFault(t, file(slices.Concat(l[300:], l[:299], l[:299], l[299:])...), 599, api.ErrMany)
	checkFault(t, file(slices.Concat(l[1:], l[1:], l[:1], l[1:])...), 600, api.ErrMany)
}

// Of lines that are wrong each in its own way the first one is told; of a line's own errors, ErrMany comes last.
func TestReadOfTooManyWordsBesideOtherErrors(t *testing.T) {
	l := distinct(301)
	for bad, fault := range wrongLines() {
		checkFault(t, file(append(slices.Clone(l), bad)...), 300, api.ErrMany)
		checkFault(t, file(slices.Insert(slices.Clone(l), 300, bad)...), 300, fault)
		checkFault(t, file(slices.Insert(slices.Clone(l), 0, bad)...), 0, fault)
		checkFault(t, file(slices.Insert(slices.Clone(l), 17, bad)...), 17, fault)
		checkFault(t, file(append(slices.Clone(l[:300]), bad)...), 300, fault)
		checkRead(t, file(append(slices.Clone(l[:300]), "#"+bad)...), l[:300]...)
	}
}

// someLines are lines of each kind and each error.
func someLines() []string {
	return []string{"", " # x", "a", " a", "b\t", "ab", "ä", "a#", "a b", "a\xff", "\xff a", "aaaaaaaaaaaaaaaaaaaaa"}
}

func TestReadOfAllShortFiles(t *testing.T) {
	for _, l := range lists(someLines(), 4) {
		checkSlow(t, file(l...))
		checkSlow(t, strings.Join(l, "\n"))
	}
	for _, b := range lists([]byte{0, 9, 10, 32, 35, 97, 98, 0xc3, 0xa4}, 5) {
		checkSlow(t, string(b))
	}
}

// Each byte at each place of an ordinary list.
func TestReadOfEachByte(t *testing.T) {
	s := "b\n# x\nab\n\n\tb\xc3\xa4 \n\xf0\x9f\x98\x80a\nabcdefghijklmnopqrst"
	for at := range len(s) {
		for c := range 256 {
			checkSlow(t, s[:at]+string([]byte{byte(c)})+s[at+1:])
			checkSlow(t, s[:at]+string([]byte{byte(c)})+s[at:])
		}
		checkSlow(t, s[:at]+s[at+1:])
		checkSlow(t, s[:at])
	}
}

// A byte 13 is a word's own.
func TestReadOfOtherLineEnds(t *testing.T) {
	checkRead(t, "a\r\nb\r\n", "a\r", "b\r")
	checkRead(t, "a\n\r\nb", "\r", "a", "b")
	checkRead(t, "a\rb", "a\rb")
	checkFault(t, "a\n"+strings.Repeat("b", 20)+"\r\n", 1, api.ErrLong)
}

// P9.3

// someWords are lists that are written.
func someWords() [][][]int {
	out := [][][]int{
		{}, wordsOf("a"), wordsOf("a", "ab", "abc", "b"), wordsOf("\x00", "\x00\x00", "\x01#", "\r", "_", "a#", "a#b", "ä", "€uro", "\uffff", "😀"),
		{slices.Repeat([]int{0}, 20), slices.Repeat([]int{97}, 20), slices.Repeat([]int{api.MaxRune}, 20)},
		{{api.LowHalf - 1}, {api.HighHalf + 1}, {api.HighHalf + 1, 0}, {65535}, {65536}},
	}
	for _, n := range []int{2, 7, 100, 299, 300} {
		out = append(out, wordsOf(distinct(n)...))
	}
	return out
}

func TestWordsAreReadAsTheyWereWritten(t *testing.T) {
	for _, l := range someWords() {
		b, err := Write(l)
		if err != api.OK {
			t.Fatalf("Write(%v) is %d", l, err)
		}
		s := string(b)
		for _, x := range []string{s, strings.TrimSuffix(s, "\n"), strings.ReplaceAll(s, "\n", " \n\n# x\n\t"), s + s} {
			if got, at, err := Read([]byte(x)); err != api.OK || at != -1 || !alike(got, l) {
				t.Errorf("Read(%q) is %v, %d, %d, want %v", x, got, at, err, l)
			}
		}
	}
	for n := range api.MaxRune + 1 {
		if w := [][]int{{n}}; Fit(w[0]) {
			b, fault := Write(w)
			if got, at, err := Read(b); fault != api.OK || err != api.OK || at != -1 || !alike(got, w) {
				t.Fatalf("%v is %q, %d, which is %v, %d, %d", w, b, fault, got, at, err)
			}
		}
	}
}

func TestWhatIsReadFitsAndRises(t *testing.T) {
	files := [][]string{shuffled(distinct(300), 2), append(distinct(300), distinct(100)...), {"a\r", "\x00", "a#", "  b", "#", ""}}
	files = append(files, lists(someLines(), 3)...)
	many := 0
	for _, lines := range files {
		l, at, err := Read([]byte(file(lines...)))
		if err != api.OK {
			continue
		}
		many++
		if at != -1 || !alike(order.Sort(l), l) {
			t.Errorf("Read(%q) is %v, %d", lines, l, at)
		}
		for _, w := range l {
			if !Fit(w) || !slowFit(w) {
				t.Errorf("Read(%q) has %v", lines, w)
			}
		}
		b, err := Write(l)
		if got, at, fault := Read(b); err != api.OK || fault != api.OK || at != -1 || !alike(got, l) {
			t.Errorf("%v is %q, %d, which is %v, %d, %d", l, b, err, got, at, fault)
		}
	}
	if many < 300 {
		t.Errorf("only %d files were read", many)
	}
}

func TestOrderOfLinesDoesNotMatter(t *testing.T) {
	for _, n := range []int{1, 2, 3, 17, 300} {
		for seed := range uint64(10) {
			checkRead(t, file(shuffled(append(distinct(n), distinct(n/2)...), seed)...), distinct(n)...)
		}
	}
}

// R1, R4

func TestReadOfLongLists(t *testing.T) {
	const n = 100000
	l := distinct(300)
	whole := file(l...)
	checkRead(t, whole+strings.Repeat("\n", n), l...)
	checkRead(t, whole+strings.Repeat("# x\n", n), l...)
	checkRead(t, strings.Repeat(whole, n/300), l...)
	checkFault(t, strings.Repeat(whole, n/300)+"a\n", n/300*300, api.ErrMany)
	checkFault(t, strings.Repeat("a\n", n)+"b b", n, api.ErrCount)
	checkFault(t, strings.Repeat("a ", n), 0, api.ErrCount)
	checkFault(t, strings.Repeat("a", n), 0, api.ErrLong)
	checkFault(t, strings.Repeat("a", n)+"\xff", 0, api.ErrUtf)
	checkRead(t, strings.Repeat(" ", n)+"a\n#"+strings.Repeat("a", n), "a")
	checkFit(t, make([]int, n), false)
	checkUnwritten(t, [][]int{make([]int, n)}, api.ErrLong)
	checkUnwritten(t, make([][]int, n), api.ErrMany)
}

func TestTheSameEachTime(t *testing.T) {
	s := file(shuffled(append(distinct(300), distinct(200)...), 9)...)
	for range 20 {
		checkRead(t, s, distinct(300)...)
		checkWrite(t, wordsOf(distinct(300)...), file(distinct(300)...))
	}
}

// R3

func TestReadChangesNothing(t *testing.T) {
	for _, s := range append(someLines(), file(distinct(301)...), file("b", "a", "", "# x", " b ", "äöü"), file("b", "a", "b c")) {
		whole := []byte("x y\n" + s + " z\n\xff")
		kept := slices.Clone(whole)
		b := whole[4 : 4+len(s)]
		want, line, fault := slowRead(s)
		got, at, err := Read(b)
		if !alike(got, want) || at != line || err != fault {
			t.Errorf("Read(%q), with more behind, is %v, %d, %d", s, got, at, err)
		}
		if !bytes.Equal(whole, kept) {
			t.Errorf("%q became %q", kept, whole)
		}
		for i := range whole {
			whole[i] = 'z'
		}
		if !alike(got, want) {
			t.Errorf("Read(%q) became %v", s, got)
		}
		checkSlow(t, s)
	}
}

// Words that lie over each other in one row, with spare room, in a list with spare room: neither is changed, in order or not.
func TestFitAndWriteChangeNothing(t *testing.T) {
	row := []int{97, 98, 98, 99, 97, -1, 32, 35}
	l := [][]int{row[0:1], row[0:2], row[1:2], row[1:3], row[2:4], row[3:4], row[0:2], row[4:6], row[7:8]}
	for n := range len(l) + 1 {
		kept, signs := deep(l), slices.Clone(row)
		checkSlowWrite(t, l[:n])
		checkSlowWrite(t, l[:n])
		for _, w := range l[:n] {
			checkFit(t, w, slowFit(w))
		}
		if !alike(l, kept) || !slices.Equal(row, signs) {
			t.Errorf("%v of %v became %v of %v", kept, signs, l, row)
		}
	}
	if &l[1][0] != &row[0] || &l[4][0] != &row[2] {
		t.Error("the words are others")
	}
	back := wordsOf("c", "a", "b", "a")
	kept := deep(back)
	checkUnwritten(t, back, api.ErrLong)
	if !alike(back, kept) {
		t.Errorf("%v became %v", kept, back)
	}
}

// What was written is not the words' memory, nor what is written next.
func TestWriteKeepsNothing(t *testing.T) {
	for _, l := range someWords() {
		want, _ := slowWrite(l)
		first, _ := Write(l)
		second, _ := Write(l)
		x := deep(l)
		third, _ := Write(x)
		kept := deep(l)
		for i := range first[:cap(first)] {
			first[:cap(first)][i] = 'z'
		}
		for _, w := range x {
			w[0] = 7
		}
		if string(second) != want || string(third) != want || !alike(l, kept) {
			t.Errorf("%q of %v became %q, %q of %v", want, kept, second, third, l)
		}
		checkWrite(t, l, want)
	}
}

// Each word of an answer, changed up to its spare room's end, and with more put behind, changes nothing else.
func TestAnswersShareNoMemory(t *testing.T) {
	for _, l := range append(lists([]string{"a", "ab", "abc", "b", "ä", "", "#"}, 3), distinct(300), append(distinct(20), distinct(20)...)) {
		s := file(l...)
		want, _, _ := slowRead(s)
		first, _, _ := Read([]byte(s))
		second, _, _ := Read([]byte(s))
		for i := range first {
			rest := deep(first)
			room := first[i][:cap(first[i])]
			for j := range room {
				room[j] = -5
			}
			rest[i] = slices.Clone(first[i])
			first[i] = append(first[i], -6)
			rest[i] = append(rest[i], -6)
			if !alike(first, rest) {
				t.Fatalf("Read(%q) became %v with word %d", s, first, i)
			}
		}
		clear(first[:cap(first)])
		if !alike(second, want) {
			t.Errorf("Read(%q) became %v", s, second)
		}
		checkSlow(t, s)
	}
}
