package spec

import (
	"bytes"
	"math"
	"slices"
	"strconv"
	"strings"
	"testing"
	"unicode/utf8"

	"spellwright/api"
)

const inf uint64 = api.Inf

// word is a text's signs.
func word(s string) []int {
	l := []int{}
	for _, r := range s {
		l = append(l, int(r))
	}
	return l
}

// from is the rule of two texts.
func from(left, right string, cost uint64) api.Rule {
	return api.Rule{Left: word(left), Right: word(right), Cost: cost}
}

// both are the rules of two signs, from the first one and back.
func both(a, b string, cost uint64) []api.Rule {
	return []api.Rule{from(a, b, cost), from(b, a, cost)}
}

func sameRule(a, b api.Rule) bool {
	return slices.Equal(a.Left, b.Left) && slices.Equal(a.Right, b.Right) && a.Cost == b.Cost
}

func same(a, b api.Spec) bool {
	return slices.Equal(a.Base, b.Base) && slices.EqualFunc(a.Rules, b.Rules, sameRule)
}

func deep(l []api.Rule) []api.Rule {
	out := []api.Rule{}
	for _, r := range l {
		out = append(out, api.Rule{Left: slices.Clone(r.Left), Right: slices.Clone(r.Right), Cost: r.Cost})
	}
	return out
}

// slowSigns are a text's signs, and whether it has any, as the library reads them.
func slowSigns(s string) ([]int, bool) {
	return word(s), utf8.ValidString(s)
}

// slowCost is the cost that is written so, and whether there is one.
func slowCost(s string) (uint64, bool) {
	c, err := strconv.ParseUint(s, 10, 64)
	return c, err == nil && strconv.FormatUint(c, 10) == s && c < 18446744073709551615
}

// slowFit says what the chapters say of a rule that fits.
func slowFit(r api.Rule) bool {
	for _, l := range [][]int{r.Left, r.Right} {
		if len(l) > 8 || slices.Equal(l, []int{95}) {
			return false
		}
		for _, n := range l {
			if n < 0 || n > 1114111 || n >= 55296 && n <= 57343 || n == 9 || n == 10 || n == 32 {
				return false
			}
		}
	}
	return !slices.Equal(r.Left, r.Right) && r.Cost < 18446744073709551615
}

// slowRules are the rules that fields of signs say by a line's word, and whether none of them is wrong.
func slowRules(first string, signs []string, cost uint64) ([]api.Rule, bool) {
	var l []api.Rule
	fits := true
	switch first {
	case "REP":
		r := api.Rule{Cost: cost}
		if signs[0] != "_" {
			r.Left = word(signs[0])
		}
		if signs[1] != "_" {
			r.Right = word(signs[1])
		}
		l = []api.Rule{r}
	case "KEY":
		for row := range strings.SplitSeq(signs[0], "|") {
			s := strings.Split(row, "")
			fits = fits && len(s) <= 12 && !strings.Contains(row, "_")
			for i := 1; i < len(s); i++ {
				if s[i-1] != s[i] {
					l = append(l, both(s[i-1], s[i], cost)...)
				}
			}
		}
	case "MAP":
		s := strings.Split(signs[0], "")
		fits = len(s) <= 12 && !strings.Contains(signs[0], "_")
		for i := range s {
			for j := range s {
				if s[i] != s[j] && fits {
					l = append(l, from(s[i], s[j], cost))
				}
			}
		}
	}
	for _, r := range l {
		fits = fits && slowFit(r)
	}
	return l, fits
}

// slowRead says what the chapter says of a line, in its order of errors.
func slowRead(s string) (api.Spec, api.Errno) {
	f := strings.FieldsFunc(s, func(r rune) bool { return r == ' ' || r == '\t' })
	if len(f) == 0 || f[0][0] == '#' {
		return api.Spec{}, api.OK
	}
	many, known := map[string]int{"BASE": 5, "REP": 4, "KEY": 3, "MAP": 3}[f[0]]
	if !known {
		return api.Spec{}, api.ErrWord
	}
	if len(f) != many {
		return api.Spec{}, api.ErrCount
	}
	if f[0] == "BASE" {
		var base []uint64
		for _, x := range f[1:] {
			c, is := slowCost(x)
			if !is {
				return api.Spec{}, api.ErrNum
			}
			base = append(base, c)
		}
		return api.Spec{Base: base}, api.OK
	}
	signs := f[1 : many-1]
	for _, x := range signs {
		if _, is := slowSigns(x); !is {
			return api.Spec{}, api.ErrUtf
		}
	}
	c, is := slowCost(f[many-1])
	if !is {
		return api.Spec{}, api.ErrNum
	}
	l, fits := slowRules(f[0], signs, c)
	if !fits {
		return api.Spec{}, api.ErrRule
	}
	return api.Spec{Rules: l}, api.OK
}

// checkRead holds what a line says against what it is to say, and an error's answer against none.
func checkRead(t *testing.T, s string, want api.Spec, fault api.Errno) {
	t.Helper()
	got, err := Read([]byte(s))
	if err != fault || !same(got, want) {
		t.Errorf("Read(%q) is %v, %d, want %v, %d", s, got, err, want, fault)
	}
	if err != api.OK && (len(got.Base) > 0 || len(got.Rules) > 0) {
		t.Errorf("Read(%q) tells %v beside an error", s, got)
	}
}

func checkRules(t *testing.T, s string, want ...api.Rule) {
	t.Helper()
	checkRead(t, s, api.Spec{Rules: want}, api.OK)
}

func checkFault(t *testing.T, s string, fault api.Errno) {
	t.Helper()
	checkRead(t, s, api.Spec{}, fault)
}

// checkSlow holds what a line says against the slow reckoning.
func checkSlow(t *testing.T, s string) {
	t.Helper()
	want, fault := slowRead(s)
	checkRead(t, s, want, fault)
}

// ordinary are lines of each kind, that say something.
func ordinary() []string {
	return []string{
		"BASE 1 2 3 4", "BASE 0 0 0 0", "REP f ph 2", "REP _ s 0", "REP s _ 1", "REP a_ _a 7",
		"KEY ab|cd 3", "KEY qwertz|asdf|yxc 2", "KEY äöü 5", "MAP aä 1", "MAP aàâ 2", "MAP a€😀 9",
	}
}

// P7.1: what says nothing, and first fields

func TestReadOfBareLines(t *testing.T) {
	for _, s := range []string{
		"", " ", "\t", " \t ", "#", "# BASE 1 2 3 4", "#REP f ph 2", "  #KEY ab 1", "\t# x", "##", "#\xff", "# \xff\xfe", " \t#", "#\n", "#BASE",
	} {
		checkRead(t, s, api.Spec{}, api.OK)
	}
	checkRead(t, string([]byte(nil)), api.Spec{}, api.OK)
	if got, err := Read(nil); err != api.OK || !same(got, api.Spec{}) {
		t.Errorf("Read(nil) is %v, %d", got, err)
	}
}

func TestReadOfUnknownWords(t *testing.T) {
	rests := []string{"", " ", " 1", " a 1", " ab 1", " f ph 2", " 1 2 3 4", " 1 2 3 4 5", " \xff \xff x", " # x"}
	for _, w := range []string{
		"BAS", "BASEE", "BASE:", "ASE", "XBASE", "BASF", "BASe", "base", "Base", "\xffBASE", "BASE\xff", "BASE\n", "\nBASE", "BASE\r", "BASE#", "BASE\x00",
		"RE", "REPP", "EP", "XREP", "REQ", "rep", "Rep", "REp", "REP\n", "REP\x00", "REP#", "REP_", "REP|",
		"KE", "KEYY", "EY", "XKEY", "KEZ", "key", "Key", "KEY\n", "KEY\x00", "KEY#", "KEYS",
		"MA", "MAPP", "AP", "XMAP", "MAQ", "map", "Map", "MAP\n", "MAP\x00", "MAP#", "MAPS",
		"BASEREP", "KEYMAP", "B", "_", "|", "1", "a", "\xff", "\x00", "\n", "\r", "ä", "\u00a0", "\u00a0REP", "\ufeffREP", "a#", "x#BASE",
	} {
		for _, rest := range rests {
			checkFault(t, w+rest, api.ErrWord)
			checkFault(t, " \t"+w+rest, api.ErrWord)
		}
	}
}

// One with as many fields as another kind has is of too many, or too few, all the same: each kind has its own number.
func TestReadOfEachCount(t *testing.T) {
	for w, x := range map[string]struct {
		field string
		many  int
	}{"BASE": {"1", 5}, "REP": {"1", 4}, "KEY": {"1", 3}, "MAP": {"1", 3}} {
		for n := 1; n <= 12; n++ {
			for _, field := range []string{x.field, "\xff", "z", "_", "#", "#1"} {
				s := w + strings.Repeat(" "+field, n-1)
				if n != x.many {
					checkFault(t, s, api.ErrCount)
					checkFault(t, s+" \t", api.ErrCount)
				} else if _, err := Read([]byte(s)); err == api.ErrCount || err == api.ErrWord {
					t.Errorf("Read(%q) is %d", s, err)
				}
			}
		}
	}
	for _, s := range []string{
		"REP f ph", "REP f ph 2 #", "REP f 2", "REP fph2", "KEY ab", "KEY ab 1 1", "KEY ab cd 3", "MAP aä", "MAP a ä 1", "MAP aä 1 2", "BASE 1 2 3", "BASE 1 2 3 4 5", "BASE 1 2 3 4 # x",
	} {
		w, _, _ := strings.Cut(s, " ")
		checkFault(t, w, api.ErrCount)
		checkFault(t, s, api.ErrCount)
	}
}

// Blanks of either sort, so many of them, ahead, between and behind, do not matter; other bytes are not blanks.
func TestReadOfBlanks(t *testing.T) {
	for _, s := range ordinary() {
		want, fault := slowRead(s)
		if fault != api.OK {
			t.Fatalf("%q is wrong", s)
		}
		for _, ahead := range []string{"", " ", "\t", "  \t", "\t \t\t"} {
			for _, behind := range []string{"", " ", "\t", " \t \t"} {
				for _, between := range []string{" ", "\t", "  ", "\t\t", " \t", "\t \t   "} {
					checkRead(t, ahead+strings.Join(strings.Fields(s), between)+behind, want, api.OK)
				}
			}
		}
	}
	for _, no := range []string{"\n", "\r", "\v", "\f", "\x00", "\u00a0", "\u2003", ",", "_"} {
		checkFault(t, "REP"+no+"f ph 2", api.ErrWord)
		checkFault(t, "REP f"+no+"ph 2", api.ErrCount)
		checkFault(t, "REP f ph"+no+"2", api.ErrCount)
		checkFault(t, "REP f ph 2"+no, api.ErrNum)
		checkFault(t, "BASE 1 2 3 4"+no, api.ErrNum)
		checkFault(t, "KEY ab 1"+no, api.ErrNum)
	}
}

// P7.1: BASE

func TestReadOfBase(t *testing.T) {
	for _, base := range [][]uint64{
		{1, 2, 3, 4}, {4, 3, 2, 1}, {0, 0, 0, 0}, {1, 1, 1, 1}, {0, 1, 2, 3}, {10, 200, 3000, 40000},
		{inf - 1, 0, 1, 2}, {0, inf - 1, 1, 2}, {0, 1, inf - 1, 2}, {0, 1, 2, inf - 1}, {inf - 1, inf - 1, inf - 1, inf - 1}, {1 << 63, 1<<63 - 1, 1 << 32, 9},
	} {
		s := "BASE"
		for _, c := range base {
			s += " " + strconv.FormatUint(c, 10)
		}
		checkRead(t, s, api.Spec{Base: base}, api.OK)
	}
}

// wrongCosts are fields that are no costs.
func wrongCosts() []string {
	return []string{
		"18446744073709551615", "18446744073709551616", "28446744073709551614", "99999999999999999999", "100000000000000000000", "184467440737095516150",
		"01", "00", "000", "-1", "+1", "-0", "1.0", "1e3", "0x1", "1_0", "a", "x1", "1x", "_", "|", "#", "#1", "\xff", "1\xff", "ä", "\u0661", "1\n", "\n1", "1\r", "1\x00",
	}
}

func TestReadOfBaseWithWrongCosts(t *testing.T) {
	for _, bad := range wrongCosts() {
		for at := range 4 {
			f := []string{"BASE", "5", "6", "7", "8"}
			f[at+1] = bad
			checkFault(t, strings.Join(f, " "), api.ErrNum)
			for _, other := range wrongCosts() {
				f[(at+1)%4+1] = other
				checkFault(t, strings.Join(f, " "), api.ErrNum)
			}
		}
		checkFault(t, "BASE"+strings.Repeat(" "+bad, 4), api.ErrNum)
		checkFault(t, "BASE"+strings.Repeat(" "+bad, 3), api.ErrCount)
		checkFault(t, "BASE"+strings.Repeat(" "+bad, 5), api.ErrCount)
	}
}

// P7.1: REP

func TestReadOfReplaced(t *testing.T) {
	for _, x := range []struct {
		s    string
		want api.Rule
	}{
		{"REP f ph 2", from("f", "ph", 2)},
		{"REP ph f 2", from("ph", "f", 2)},
		{"REP a b 0", from("a", "b", 0)},
		{"REP a b 18446744073709551614", from("a", "b", inf-1)},
		{"REP _ s 0", from("", "s", 0)},
		{"REP s _ 0", from("s", "", 0)},
		{"REP _ abcdefgh 1", from("", "abcdefgh", 1)},
		{"REP abcdefgh _ 1", from("abcdefgh", "", 1)},
		{"REP abcdefgh a 1", from("abcdefgh", "a", 1)},
		{"REP a abcdefgh 1", from("a", "abcdefgh", 1)},
		{"REP abcdefgh abcdefgi 1", from("abcdefgh", "abcdefgi", 1)},
		{"REP äöüß€😀äö ääääääää 1", from("äöüß€😀äö", "ääääääää", 1)},
		{"REP 😀😀😀😀😀😀😀😀 _ 1", from("😀😀😀😀😀😀😀😀", "", 1)},
		{"REP __ _ 1", from("__", "", 1)},
		{"REP _ __ 1", from("", "__", 1)},
		{"REP _a a_ 1", from("_a", "a_", 1)},
		{"REP a_b b 1", from("a_b", "b", 1)},
		{"REP b a_b 1", from("b", "a_b", 1)},
		{"REP ________ _______ 1", from("________", "_______", 1)},
		{"REP | a 1", from("|", "a", 1)},
		{"REP a|b | 1", from("a|b", "|", 1)},
		{"REP # a 1", from("#", "a", 1)},
		{"REP a # 1", from("a", "#", 1)},
		{"REP REP BASE 1", from("REP", "BASE", 1)},
		{"REP 1 2 3", from("1", "2", 3)},
		{"REP \x00 \x01 3", from("\x00", "\x01", 3)},
		{"REP \u00a0 \r 3", from("\u00a0", "\r", 3)},
		{"REP \U0010ffff \ue000 3", from("\U0010ffff", "\ue000", 3)},
		{"REP \ufffd \ud7ff 3", from("\ufffd", "\ud7ff", 3)},
	} {
		checkRules(t, x.s, x.want)
	}
}

func TestReadOfReplacedThatDoesNotFit(t *testing.T) {
	for _, s := range []string{
		"REP _ _ 1", "REP a a 1", "REP ph ph 0", "REP ä ä 1", "REP __ __ 1", "REP abcdefgh abcdefgh 1",
		"REP abcdefghi a 1", "REP a abcdefghi 1", "REP abcdefghi _ 1", "REP _ abcdefghi 1", "REP abcdefghi abcdefghi 1",
		"REP äöüß€😀äöü a 1", "REP a äöüß€😀äöü 1", "REP _________ a 1", "REP a _________ 1",
		"REP \n a 1", "REP a \n 1", "REP a\n b 1", "REP \na b 1", "REP a b\n 1", "REP a \nb 1", "REP a\nc b 1", "REP a _\n 1", "REP _\n a 1",
		"REP a\nb c 18446744073709551614", "REP " + strings.Repeat("a", 5000) + " b 1",
	} {
		checkFault(t, s, api.ErrRule)
	}
}

// wrongSigns are fields that are no signs.
func wrongSigns() []string {
	return []string{
		"\xff", "\x80", "\xc0\x80", "\xc3", "a\xc3", "\xc3a", "a\xff", "\xffa", "\xe2\x82", "\xe2\x82a", "\xe0\x80\x80", "\xed\xa0\x80", "\xed\xbf\xbf",
		"\xf0\x9f\x98", "\xf4\x90\x80\x80", "\xf8\x88\x80\x80\x80", "_\xff", "\xff_", "|\xff", "\xff|", "aaaaaaaaaaaaa\xff", "\xff\n", "\n\xff", "ab|cd\x80",
	}
}

// Bytes that are no signs are told ahead of a wrong cost, and that ahead of a rule that does not fit.
func TestReadOfReplacedInOrderOfErrors(t *testing.T) {
	sides := []string{"a", "b", "_", "abcdefghi", "\n", "__"}
	for _, bad := range wrongSigns() {
		for _, side := range append(sides, wrongSigns()...) {
			for _, c := range append(wrongCosts(), "0", "7") {
				checkFault(t, "REP "+bad+" "+side+" "+c, api.ErrUtf)
				checkFault(t, "REP "+side+" "+bad+" "+c, api.ErrUtf)
			}
		}
		checkFault(t, "REP "+bad+" 1", api.ErrCount)
		checkFault(t, "REP a b "+bad+" 1", api.ErrCount)
	}
	for _, c := range wrongCosts() {
		for _, left := range sides {
			for _, right := range sides {
				checkFault(t, "REP "+left+" "+right+" "+c, api.ErrNum)
			}
		}
	}
}

// P7.1: KEY

func TestReadOfRows(t *testing.T) {
	checkRules(t, "KEY ab|cd 3", from("a", "b", 3), from("b", "a", 3), from("c", "d", 3), from("d", "c", 3))
	checkRules(t, "KEY ba 3", from("b", "a", 3), from("a", "b", 3))
	checkRules(t, "KEY cba 0", slices.Concat(both("c", "b", 0), both("b", "a", 0))...)
	checkRules(t, "KEY dc|ab 3", slices.Concat(both("d", "c", 3), both("a", "b", 3))...)
	checkRules(t, "KEY abc 18446744073709551614", slices.Concat(both("a", "b", inf-1), both("b", "c", inf-1))...)
	checkRules(t, "KEY äö😀|€z 5", slices.Concat(both("ä", "ö", 5), both("ö", "😀", 5), both("€", "z", 5))...)
	checkRules(t, "KEY #1|KEY 5", slices.Concat(both("#", "1", 5), both("K", "E", 5), both("E", "Y", 5))...)
	checkRules(t, "KEY \x00\u00a0\r 5", slices.Concat(both("\x00", "\u00a0", 5), both("\u00a0", "\r", 5))...)

	// Rows of no sign, and of one, have no rules; what stands on both sides of 124 does not stand beside one another.
	for _, s := range []string{"KEY | 1", "KEY || 1", "KEY ||| 1", "KEY a 1", "KEY a| 1", "KEY |a 1", "KEY a|b 1", "KEY a|b|c 1", "KEY |a||b| 1", "KEY ä|ä 1", "KEY \n 1", "KEY \n|a 1", "KEY 0 0"} {
		checkRules(t, s)
	}
	for _, s := range []string{"KEY |ab 2", "KEY ab| 2", "KEY |ab| 2", "KEY ||ab 2", "KEY ab|| 2", "KEY a|ab 2", "KEY ab|b 2", "KEY c|ab|c 2"} {
		checkRules(t, s, both("a", "b", 2)...)
	}
	for _, s := range []string{"KEY ab|cd 2", "KEY ab||cd 2", "KEY |ab|cd| 2", "KEY ||ab|||cd 2", "KEY ab|e|cd 2"} {
		checkRules(t, s, slices.Concat(both("a", "b", 2), both("c", "d", 2))...)
	}

	// Alike ones beside one another have none; apart each two that are unlike have theirs, the same ones again, too.
	checkRules(t, "KEY aa 1")
	checkRules(t, "KEY aaaa|bb 1")
	checkRules(t, "KEY aab 1", both("a", "b", 1)...)
	checkRules(t, "KEY abb 1", both("a", "b", 1)...)
	checkRules(t, "KEY aba 1", slices.Concat(both("a", "b", 1), both("b", "a", 1))...)
	checkRules(t, "KEY abab 1", slices.Concat(both("a", "b", 1), both("b", "a", 1), both("a", "b", 1))...)
	checkRules(t, "KEY ab|ab 1", slices.Concat(both("a", "b", 1), both("a", "b", 1))...)
	checkRules(t, "KEY ab|ba 1", slices.Concat(both("a", "b", 1), both("b", "a", 1))...)
	checkRules(t, "KEY aabbcc 1", slices.Concat(both("a", "b", 1), both("b", "c", 1))...)
}

// neighbours are the rules of a row whose signs are all unlike.
func neighbours(row string, cost uint64) []api.Rule {
	var l []api.Rule
	s := strings.Split(row, "")
	for i := 1; i < len(s); i++ {
		l = append(l, both(s[i-1], s[i], cost)...)
	}
	return l
}

func TestReadOfRowsOfEachLength(t *testing.T) {
	for _, long := range []string{"abcdefghijklmnopqrstuvwxyz", "äbödeüghßjklmnopqrstuvwxyz", "😀€äabcdefghijklmnopqrstu"} {
		signs := strings.Split(long, "")
		for n := 1; n <= 20; n++ {
			row := strings.Join(signs[:n], "")
			for _, s := range []string{row, row + "|", "|" + row, "|" + row + "|", "1|" + row, row + "|1"} {
				if n <= 12 {
					checkRules(t, "KEY "+s+" 4", neighbours(row, 4)...)
				} else {
					checkFault(t, "KEY "+s+" 4", api.ErrRule)
				}
			}
			if n > 12 {
				checkFault(t, "KEY 12|"+row+" 4", api.ErrRule)
				checkFault(t, "KEY "+row+"|12 4", api.ErrRule)
				checkFault(t, "KEY "+row+"|"+row+" 4", api.ErrRule)
			}
		}
	}
	// Alike signs count as others do; all rows together may have more.
	checkRules(t, "KEY "+strings.Repeat("a", 12)+" 4")
	checkFault(t, "KEY "+strings.Repeat("a", 13)+" 4", api.ErrRule)
	checkFault(t, "KEY b|"+strings.Repeat("a", 13)+" 4", api.ErrRule)
	twelve := "abcdefghijkl"
	checkRules(t, "KEY "+twelve+"|"+twelve+"|"+twelve+" 4", slices.Concat(neighbours(twelve, 4), neighbours(twelve, 4), neighbours(twelve, 4))...)
	checkRules(t, "KEY "+strings.Repeat("|", 500)+"ab 4", both("a", "b", 4)...)
}

func TestReadOfRowsThatDoNotFit(t *testing.T) {
	for _, s := range []string{
		"KEY _ 1", "KEY __ 1", "KEY _| 1", "KEY |_ 1", "KEY _|ab 1", "KEY ab|_ 1", "KEY ab|_|cd 1", "KEY ab_ 1", "KEY a_b 1", "KEY _ab 1", "KEY ab|c_d 1", "KEY ab_|cd 1", "KEY ä_ 0",
		"KEY a\n 1", "KEY \na 1", "KEY a\nb 1", "KEY ab|c\n 1", "KEY a\n|cd 1",
	} {
		checkFault(t, s, api.ErrRule)
	}
}

// P7.1: MAP

func TestReadOfClasses(t *testing.T) {
	checkRules(t, "MAP aä 1", from("a", "ä", 1), from("ä", "a", 1))
	checkRules(t, "MAP ba 0", from("b", "a", 0), from("a", "b", 0))
	checkRules(t, "MAP cab 2", from("c", "a", 2), from("c", "b", 2), from("a", "c", 2), from("a", "b", 2), from("b", "c", 2), from("b", "a", 2))
	checkRules(t, "MAP abc 18446744073709551614",
		from("a", "b", inf-1), from("a", "c", inf-1), from("b", "a", inf-1), from("b", "c", inf-1), from("c", "a", inf-1), from("c", "b", inf-1))
	checkRules(t, "MAP abcd 2",
		from("a", "b", 2), from("a", "c", 2), from("a", "d", 2), from("b", "a", 2), from("b", "c", 2), from("b", "d", 2),
		from("c", "a", 2), from("c", "b", 2), from("c", "d", 2), from("d", "a", 2), from("d", "b", 2), from("d", "c", 2))
	checkRules(t, "MAP ä€😀 2", from("ä", "€", 2), from("ä", "😀", 2), from("€", "ä", 2), from("€", "😀", 2), from("😀", "ä", 2), from("😀", "€", 2))

	// The sign 124 is one as others are.
	checkRules(t, "MAP a| 2", both("a", "|", 2)...)
	checkRules(t, "MAP | 2")
	checkRules(t, "MAP || 2")
	checkRules(t, "MAP a|b 2", from("a", "|", 2), from("a", "b", 2), from("|", "a", 2), from("|", "b", 2), from("b", "a", 2), from("b", "|", 2))

	// One sign, and alike ones, have no rules; of each two places that are unlike there is one, the same one again, too.
	for _, s := range []string{"MAP a 1", "MAP ä 1", "MAP # 1", "MAP aa 1", "MAP aaaaaaaaaaaa 1", "MAP \n 1", "MAP \n\n 1"} {
		checkRules(t, s)
	}
	checkRules(t, "MAP aab 1", from("a", "b", 1), from("a", "b", 1), from("b", "a", 1), from("b", "a", 1))
	checkRules(t, "MAP aba 1", from("a", "b", 1), from("b", "a", 1), from("b", "a", 1), from("a", "b", 1))
	checkRules(t, "MAP abb 1", from("a", "b", 1), from("a", "b", 1), from("b", "a", 1), from("b", "a", 1))
}

func TestReadOfClassesOfEachLength(t *testing.T) {
	for _, long := range []string{"abcdefghijklmnopqrstuvwxyz", "äbödeüghßjklmnopqrstuvwxyz", "|😀€äabcdefghijklmnopqrstu", "abcdef|ghijkl|mnopqrst"} {
		signs := strings.Split(long, "")
		for n := 1; n <= 20; n++ {
			s := "MAP " + strings.Join(signs[:n], "") + " 4"
			if n > 12 {
				checkFault(t, s, api.ErrRule)
				continue
			}
			checkSlow(t, s)
			if got, err := Read([]byte(s)); err != api.OK || len(got.Rules) == 0 && n > 1 {
				t.Errorf("Read(%q) is %v, %d", s, got, err)
			}
		}
	}
	checkFault(t, "MAP "+strings.Repeat("a", 13)+" 4", api.ErrRule)
	checkFault(t, "MAP "+strings.Repeat("|", 13)+" 4", api.ErrRule)
	got, err := Read([]byte("MAP abcdefghijkl 4"))
	if err != api.OK || len(got.Rules) != 12*11 {
		t.Errorf("twelve signs have %d rules, %d", len(got.Rules), err)
	}
}

func TestReadOfClassesThatDoNotFit(t *testing.T) {
	for _, s := range []string{"MAP _ 1", "MAP __ 1", "MAP a_ 1", "MAP _a 1", "MAP a_b 1", "MAP ä_ 0", "MAP _| 1", "MAP abcdefghijk_ 1", "MAP a\n 1", "MAP \na 1", "MAP a\nb 1"} {
		checkFault(t, s, api.ErrRule)
	}
}

// Bytes that are no signs are told ahead of a wrong cost, and that ahead of rows, or a class, that do not fit.
func TestReadOfRowsAndClassesInOrderOfErrors(t *testing.T) {
	for _, w := range []string{"KEY ", "MAP "} {
		for _, bad := range wrongSigns() {
			for _, more := range []string{"", "a", "_", "|ab", "aaaaaaaaaaaaa", "\n"} {
				for _, c := range append(wrongCosts(), "0", "7") {
					checkFault(t, w+bad+more+" "+c, api.ErrUtf)
					checkFault(t, w+more+bad+more+" "+c, api.ErrUtf)
				}
			}
			checkFault(t, w+bad, api.ErrCount)
			checkFault(t, w+bad+" "+bad+" 1", api.ErrCount)
		}
		for _, c := range wrongCosts() {
			for _, field := range []string{"a", "ab", "aa", "_", "a_", "|", "ab|cd", "a\nb", "abcdefghijklm", "aaaaaaaaaaaaa", "x|abcdefghijklm"} {
				checkFault(t, w+field+" "+c, api.ErrNum)
			}
		}
		checkRules(t, w+"ab 0", both("a", "b", 0)...)
		checkRules(t, w+"ab 18446744073709551614", both("a", "b", inf-1)...)
		checkFault(t, w+"ab 18446744073709551615", api.ErrNum)
	}
}

// lists are the lists of at most so many of these, the shorter ones first.
func lists[T any](of []T, long int) [][]T {
	out := [][]T{{}}
	begin := 0
	for range long {
		end := len(out)
		for _, l := range out[begin:end] {
			for _, x := range of {
				out = append(out, append(slices.Clone(l), x))
			}
		}
		begin = end
	}
	return out
}

// Every line of a word, and at most five of these fields.
func TestReadOfAllShortLines(t *testing.T) {
	fields := []string{"a", "ab", "_", "0", "18446744073709551615", "\xff", "x|__", "abcdefghijklm"}
	for _, l := range lists(fields, 5) {
		rest := strings.Join(l, " ")
		for _, w := range []string{"BASE ", "REP ", "KEY ", "MAP "} {
			checkSlow(t, w+rest)
		}
	}
	for _, l := range lists(append(fields, "REP", "KEY", "MAP", "BASE", "#", "1"), 3) {
		checkSlow(t, strings.Join(l, " "))
	}
}

// Every field of at most five of these signs, in each place of a line.
func TestReadOfAllShortFields(t *testing.T) {
	for _, l := range lists([]string{"a", "b", "ä", "_", "|", "\n", " ", "#", "\xc3"}, 5) {
		field := strings.Join(l, "")
		for _, s := range []string{"KEY " + field + " 1", "MAP " + field + " 2", "REP " + field + " a 3", "REP a " + field + " 4", "REP _ " + field + " 5", "KEY ab " + field, field} {
			checkSlow(t, s)
		}
	}
}

// Each byte in each place of a line, instead of what is there and beside it.
func TestReadOfEachByte(t *testing.T) {
	for _, s := range ordinary() {
		for i := range len(s) {
			for c := range 256 {
				checkSlow(t, s[:i]+string([]byte{byte(c)})+s[i+1:])
				checkSlow(t, s[:i]+string([]byte{byte(c)})+s[i:])
			}
			checkSlow(t, s[:i]+s[i+1:])
			checkSlow(t, s[:i])
		}
	}
}

// P7.2: Fit

// fitSides are sides that may be, and some that may not, with those signs that do not fit, at each place.
func fitSides() [][]int {
	sides := [][]int{
		nil, {}, word("a"), word("b"), word("ab"), word("ba"), word("ä€😀"), word("abcdefgh"), word("abcdefgi"), word("abcdefghi"),
		word("_"), word("__"), word("_a"), word("a_"), word("a_b"), word("________"), word("_________"), word("|"), word("#"), word("REP"),
		{0}, {8}, {11}, {13}, {31}, {33}, {94}, {96}, {160}, {api.MaxRune}, {api.LowHalf - 1}, {api.HighHalf + 1},
		{-1}, {api.MaxRune + 1}, {api.LowHalf}, {api.HighHalf}, {math.MinInt}, {math.MaxInt}, {1<<32 + 97}, {1<<32 + 95}, {97, -1}, {-1, 97},
	}
	for _, n := range []int{9, 10, 32} {
		sides = append(sides, []int{n}, []int{n, n}, []int{n, 97}, []int{97, n}, []int{97, n, 98}, []int{95, n}, []int{n, 95})
		for at := range 8 {
			l := word("abcdefgh")
			l[at] = n
			sides = append(sides, l)
		}
	}
	return sides
}

func checkFit(t *testing.T, r api.Rule, want bool) {
	t.Helper()
	if got := Fit(r); got != want {
		t.Errorf("Fit(%v) is %t", r, got)
	}
	if b, err := Write(r); (err == api.OK) != want || !want && (err != api.ErrRule || len(b) > 0) {
		t.Errorf("Write(%v) is %q, %d", r, b, err)
	}
}

func TestFit(t *testing.T) {
	for _, x := range []struct {
		left, right string
		want        bool
	}{
		{"f", "ph", true}, {"", "s", true}, {"s", "", true}, {"abcdefgh", "", true}, {"", "abcdefgh", true}, {"ä", "a", true},
		{"", "", false}, {"a", "a", false}, {"abcdefghi", "", false}, {"", "abcdefghi", false},
		{"\t", "a", false}, {"\n", "a", false}, {" ", "a", false}, {"a", "\t", false}, {"a", "\n", false}, {"a", " ", false},
		{"\tb", "a", false}, {"\nb", "a", false}, {" b", "a", false}, {"a", "\tb", false}, {"a", "\nb", false}, {"a", " b", false},
		{"b\t", "a", false}, {"b\n", "a", false}, {"b ", "a", false}, {"a", "b\t", false}, {"a", "b\n", false}, {"a", "b ", false},
		{"b c", "a", false}, {"a", "b\tc", false}, {"abcdefg ", "", false}, {"", "abcdefg\n", false}, {"", " ", false}, {"\t", "", false}, {"\n", " ", false},
		{"_", "a", false}, {"a", "_", false}, {"_", "", false}, {"", "_", false}, {"_", "_", false}, {"_", "__", false}, {"__", "_", false},
		{"__", "a", true}, {"a", "__", true}, {"__", "", true}, {"", "__", true}, {"_b", "a", true}, {"b_", "a", true}, {"a", "_b", true}, {"a", "b_", true}, {"b_c", "", true},
		{"\r", "a", true}, {"\v", "\f", true}, {"\x00", "a", true}, {"\u00a0", "\u2003", true}, {"#", "|", true}, {"\b", "!", true}, {"^", "`", true},
	} {
		for _, c := range []uint64{0, 1, 9, 10, 32, 95, 1 << 63, inf - 1} {
			checkFit(t, from(x.left, x.right, c), x.want)
		}
		checkFit(t, from(x.left, x.right, inf), false)
	}
	checkFit(t, api.Rule{}, false)
}

func TestFitOfEachTwoSides(t *testing.T) {
	for _, left := range fitSides() {
		for _, right := range fitSides() {
			for _, c := range []uint64{0, 5, inf - 1, inf} {
				r := api.Rule{Left: left, Right: right, Cost: c}
				checkFit(t, r, slowFit(r))
			}
		}
	}
}

// Each number up to some, alone in a side and among others.
func TestFitOfEachSign(t *testing.T) {
	for n := -300; n < 60000; n++ {
		for i, r := range []api.Rule{
			{Left: []int{n}}, {Right: []int{n}}, {Left: []int{n, 300}}, {Right: []int{300, n}},
		} {
			want := n >= 0 && n != 9 && n != 10 && n != 32 && !(n >= 55296 && n <= 57343) && (n != 95 || i > 1)
			checkFit(t, r, want)
		}
	}
}

func TestFitOfLongSides(t *testing.T) {
	long := slices.Repeat([]int{97}, 1<<20)
	for _, r := range []api.Rule{{Left: long}, {Right: long}, {Left: long, Right: long}, {Left: long, Right: long[:1]}} {
		checkFit(t, r, false)
	}
}

// P7.2: Write

func checkWrite(t *testing.T, r api.Rule, want string) {
	t.Helper()
	if got, err := Write(r); err != api.OK || string(got) != want {
		t.Errorf("Write(%v) is %q, %d, want %q", r, got, err, want)
	}
}

func TestWrite(t *testing.T) {
	checkWrite(t, from("f", "ph", 2), "REP f ph 2")
	checkWrite(t, from("ph", "f", 2), "REP ph f 2")
	checkWrite(t, from("", "s", 0), "REP _ s 0")
	checkWrite(t, from("s", "", 0), "REP s _ 0")
	checkWrite(t, api.Rule{Right: word("s"), Cost: 10}, "REP _ s 10")
	checkWrite(t, api.Rule{Left: word("s"), Cost: 10}, "REP s _ 10")
	checkWrite(t, from("abcdefgh", "ijklmnop", inf-1), "REP abcdefgh ijklmnop 18446744073709551614")
	checkWrite(t, from("ä", "€😀", 1<<63), "REP \xc3\xa4 \xe2\x82\xac\xf0\x9f\x98\x80 9223372036854775808")
	checkWrite(t, from("_a", "b_", 1), "REP _a b_ 1")
	checkWrite(t, from("__", "", 1), "REP __ _ 1")
	checkWrite(t, from("", "__", 1), "REP _ __ 1")
	checkWrite(t, from("#", "|", 1), "REP # | 1")
	checkWrite(t, from("\x00", "\r", 1), "REP \x00 \r 1")
	checkWrite(t, from("\U0010ffff", "\x7f\u0080", 1), "REP \xf4\x8f\xbf\xbf \x7f\xc2\x80 1")
	checkWrite(t, from("1", "2", 3), "REP 1 2 3")
}

func TestWriteOfRulesThatDoNotFit(t *testing.T) {
	for _, r := range []api.Rule{
		{}, from("a", "a", 1), from("abcdefghi", "a", 1), from("a", "b", inf), from("_", "a", 1), from("a", "_", 1),
		from("a b", "c", 1), from("a", "b\t", 1), from("\n", "a", 1), {Left: []int{-1}}, {Right: []int{api.LowHalf}}, {Left: []int{1<<32 + 97}},
	} {
		if b, err := Write(r); err != api.ErrRule || len(b) > 0 {
			t.Errorf("Write(%v) is %q, %d", r, b, err)
		}
	}
}

// P7.3

func TestRulesAreReadAsTheyWereWritten(t *testing.T) {
	many := 0
	for _, left := range fitSides() {
		for _, right := range fitSides() {
			for _, c := range []uint64{0, 1, 10, 1 << 63, inf - 1} {
				r := api.Rule{Left: left, Right: right, Cost: c}
				b, err := Write(r)
				if err != api.OK {
					continue
				}
				many++
				checkRules(t, string(b), r)
				checkRules(t, "\t "+strings.ReplaceAll(string(b), " ", "\t ")+" \t", r)
				if bytes.IndexByte(b, '\n') >= 0 {
					t.Errorf("%q is no line", b)
				}
			}
		}
	}
	if many < 1000 {
		t.Errorf("only %d rules were written", many)
	}
}

// Unlike rules have unlike lines.
func TestEachRuleHasItsOwnLine(t *testing.T) {
	lines := map[string]api.Rule{}
	for _, left := range lists([]int{95, 97, 98, 228}, 3) {
		for _, right := range lists([]int{95, 97, 98, 228}, 3) {
			for _, c := range []uint64{0, 1, 10} {
				r := api.Rule{Left: left, Right: right, Cost: c}
				b, err := Write(r)
				if (err == api.OK) != slowFit(r) {
					t.Errorf("Write(%v) is %q, %d", r, b, err)
				}
				if err != api.OK {
					continue
				}
				if other, has := lines[string(b)]; has {
					t.Errorf("%v and %v are both %q", r, other, b)
				}
				lines[string(b)] = r
			}
		}
	}
}

func TestWhatIsReadFits(t *testing.T) {
	many := 0
	for _, l := range lists([]string{"a", "b", "ä", "_", "|", "\n", "\xff", "abcdefgh"}, 4) {
		field := strings.Join(l, "")
		for _, s := range []string{"KEY " + field + " 1", "MAP " + field + " 0", "REP " + field + " a 3", "REP _ " + field + " 4"} {
			got, err := Read([]byte(s))
			if err != api.OK {
				continue
			}
			for _, r := range got.Rules {
				many++
				if !Fit(r) || !slowFit(r) {
					t.Errorf("Read(%q) has %v, which does not fit", s, r)
				}
				b, fault := Write(r)
				if fault != api.OK {
					t.Errorf("Read(%q) has %v, which is not written: %d", s, r, fault)
				}
				checkRules(t, string(b), r)
			}
		}
	}
	if many < 1000 {
		t.Errorf("only %d rules were read", many)
	}
}

// Of KEY and MAP each rule is there both ways, as often.
func TestRulesOfRowsAndClassesAreThereBothWays(t *testing.T) {
	for _, l := range lists([]string{"a", "b", "c", "ä", "|"}, 5) {
		for _, w := range []string{"KEY ", "MAP "} {
			s := w + strings.Join(l, "") + " 6"
			got, _ := Read([]byte(s))
			for _, r := range got.Rules {
				if len(r.Left) != 1 || len(r.Right) != 1 || r.Cost != 6 {
					t.Errorf("Read(%q) has %v", s, r)
				}
				if back := (api.Rule{Left: r.Right, Right: r.Left, Cost: 6}); times(got.Rules, back) != times(got.Rules, r) {
					t.Errorf("Read(%q) has %v, but not as often back", s, r)
				}
			}
		}
	}
}

// times is how often a rule is there.
func times(l []api.Rule, r api.Rule) int {
	n := 0
	for _, o := range l {
		if sameRule(o, r) {
			n++
		}
	}
	return n
}

// R1, R4

func TestReadOfLongLines(t *testing.T) {
	const n = 1 << 18
	checkFault(t, "MAP "+strings.Repeat("ab", n)+" 1", api.ErrRule)
	checkFault(t, "KEY "+strings.Repeat("ab", n)+" 1", api.ErrRule)
	checkFault(t, "REP "+strings.Repeat("ab", n)+" a 1", api.ErrRule)
	checkFault(t, "REP a "+strings.Repeat("ab", n)+" 1", api.ErrRule)
	checkFault(t, "BASE 1 2 3 "+strings.Repeat("4", n), api.ErrNum)
	checkFault(t, "BASE "+strings.Repeat("1 ", n), api.ErrCount)
	checkFault(t, strings.Repeat("KEY", n), api.ErrWord)
	checkRules(t, "KEY "+strings.Repeat("|", n)+" 1")
	checkRules(t, "#"+strings.Repeat(" BASE", n))
	checkRules(t, strings.Repeat(" ", n)+"REP a b 1"+strings.Repeat("\t", n), from("a", "b", 1))
	got, err := Read([]byte("KEY " + strings.Repeat("ab|", n) + " 1"))
	if err != api.OK || len(got.Rules) != 2*n || !sameRule(got.Rules[2*n-1], from("b", "a", 1)) {
		t.Errorf("%d rules, %d", len(got.Rules), err)
	}
}

func TestTheSameEachTime(t *testing.T) {
	for _, s := range ordinary() {
		want, fault := slowRead(s)
		for range 50 {
			checkRead(t, s, want, fault)
			roomy := append(make([]byte, 0, 300), s...)
			if got, err := Read(roomy); err != fault || !same(got, want) {
				t.Errorf("Read(%q), with room behind, is %v, %d", s, got, err)
			}
		}
	}
}

// R3

// roomy are the bytes of a text, with others ahead and behind in the same memory.
func roomy(s string) (l, whole []byte) {
	whole = []byte("REP x y 9 " + s + " KEY ab 3 \xff_|\n")
	return whole[10 : 10+len(s)], whole
}

func TestNothingIsChanged(t *testing.T) {
	for _, s := range append(ordinary(), "", "#x", "REP _ _ 1", "REP a \xff 1", "BASE 1 2 3 x", "KEY abcdefghijklm 1", "MAP _ 1", "XYZ", "KEY ab") {
		l, whole := roomy(s)
		kept := slices.Clone(whole)
		want, fault := slowRead(s)
		got, err := Read(l)
		if err != fault || !same(got, want) {
			t.Errorf("Read(%q) is %v, %d", s, got, err)
		}
		if !bytes.Equal(whole, kept) {
			t.Errorf("%q became %q", kept, whole)
		}
	}
	row := []int{102, 112, 104, 97, 98, 9, 10, 32, 95, -1}
	kept := slices.Clone(row)
	for i := range row {
		for j := i; j <= len(row); j++ {
			for _, r := range []api.Rule{{Left: row[i:j], Right: row[:1], Cost: 3}, {Left: row[3:5], Right: row[i:j], Cost: 1}, {Left: row[i:j], Right: row[i:i]}} {
				checkFit(t, r, slowFit(r))
			}
		}
	}
	if !slices.Equal(row, kept) {
		t.Errorf("%v became %v", kept, row)
	}
}

// What is handed in is not kept: changed behind the call, it changes no answer.
func TestNothingIsKept(t *testing.T) {
	for _, s := range ordinary() {
		l, whole := roomy(s)
		want, _ := slowRead(s)
		got, _ := Read(l)
		for i := range whole {
			whole[i] = 'z'
		}
		if !same(got, want) {
			t.Errorf("Read(%q) became %v", s, got)
		}
		checkRead(t, s, want, api.OK)
	}
	r := from("ab", "cd", 5)
	b, _ := Write(r)
	r.Left[0], r.Right[1] = 122, 122
	if string(b) != "REP ab cd 5" {
		t.Errorf("what was written became %q", b)
	}
	checkWrite(t, r, "REP zb cz 5")
}

// Each list of an answer, changed up to its spare room's end, and with more put behind, changes nothing else.
func TestAnswersShareNoMemory(t *testing.T) {
	for _, s := range append(ordinary(), "REP abc abd 1", "KEY aba|ab 1", "MAP aab 1") {
		want, _ := slowRead(s)
		first, _ := Read([]byte(s))
		second, _ := Read([]byte(s))
		var sides []*[]int
		for i := range first.Rules {
			sides = append(sides, &first.Rules[i].Left, &first.Rules[i].Right)
		}
		for i, side := range sides {
			var rest [][]int
			for _, o := range sides {
				rest = append(rest, slices.Clone(*o))
			}
			for j := range (*side)[:cap(*side)] {
				(*side)[:cap(*side)][j] = -5
			}
			*side = append(*side, -6)
			for k, o := range sides {
				if k != i && !slices.Equal(*o, rest[k]) {
					t.Errorf("%q: side %d changed with side %d", s, k, i)
				}
			}
		}
		clear(first.Rules[:cap(first.Rules)])
		clear(first.Base[:cap(first.Base)])
		if !same(second, want) {
			t.Errorf("Read(%q) became %v", s, second)
		}
		checkRead(t, s, want, api.OK)
	}
}

func TestWhatIsWrittenIsNewMemory(t *testing.T) {
	for _, r := range []api.Rule{from("", "s", 0), from("s", "", 0), from("ab", "cd", 5)} {
		kept := deep([]api.Rule{r})[0]
		first, _ := Write(r)
		second, _ := Write(r)
		want := string(second)
		for i := range first[:cap(first)] {
			first[:cap(first)][i] = 'z'
		}
		if string(second) != want || !sameRule(r, kept) {
			t.Errorf("%q of %v became %q of %v", want, kept, second, r)
		}
		checkWrite(t, r, want)
	}
}
