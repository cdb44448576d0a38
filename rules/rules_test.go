package rules

import (
	"bytes"
	"math"
	"slices"
	"strconv"
	"strings"
	"testing"

	"spellwright/api"
	"spellwright/rule"
	"spellwright/spec"
)

const inf uint64 = api.Inf

// word is a text's signs.
func word(s string) []int {
	l := []int{}
	for _, r := range s {
		l = append(l, int(r))
	}
	return l
}

// from is the rule of two texts.
func from(left, right string, cost uint64) api.Rule {
	return api.Rule{Left: word(left), Right: word(right), Cost: cost}
}

// costs are those of base steps, and rules.
func costs(more, less, other, turned uint64, l ...api.Rule) api.Costs {
	return api.Costs{More: more, Less: less, Other: other, Turned: turned, Rules: l}
}

// plain are the costs of a file without BASE.
func plain(l ...api.Rule) api.Costs {
	return costs(1, 1, 1, 1, l...)
}

func deep(l []api.Rule) []api.Rule {
	out := []api.Rule{}
	for _, r := range l {
		out = append(out, api.Rule{Left: slices.Clone(r.Left), Right: slices.Clone(r.Right), Cost: r.Cost})
	}
	return out
}

func deepCosts(c api.Costs) api.Costs {
	c.Rules = deep(c.Rules)
	return c
}

func alikeSides(a, b api.Rule) bool {
	return slices.Compare(a.Left, b.Left) == 0 && slices.Compare(a.Right, b.Right) == 0
}

func alikeRules(a, b []api.Rule) bool {
	return slices.EqualFunc(a, b, func(x, y api.Rule) bool { return alikeSides(x, y) && x.Cost == y.Cost })
}

func alike(a, b api.Costs) bool {
	return a.More == b.More && a.Less == b.Less && a.Other == b.Other && a.Turned == b.Turned && alikeRules(a.Rules, b.Rules)
}

func isZero(c api.Costs) bool {
	return alike(c, api.Costs{})
}

// shuffled is the same list in another order, which hangs on the seed alone.
func shuffled[T any](l []T, seed uint64) []T {
	out := slices.Clone(l)
	for i := len(out) - 1; i > 0; i-- {
		seed = seed*6364136223846793005 + 1442695040888963407
		j := int(seed >> 33 % uint64(i+1))
		out[i], out[j] = out[j], out[i]
	}
	return out
}

// lists are the lists of at most so many of these, the shorter ones first.
func lists[T any](of []T, long int) [][]T {
	out := [][]T{{}}
	begin := 0
	for range long {
		end := len(out)
		for _, l := range out[begin:end] {
			for _, x := range of {
				out = append(out, append(slices.Clone(l), x))
			}
		}
		begin = end
	}
	return out
}

// distinct are so many rules in order, that may be, none of the same sides as another one; costs fall, so that they are not in order of these.
func distinct(n int) []api.Rule {
	out := []api.Rule{}
	for i := range n {
		out = append(out, api.Rule{Left: []int{300 + i/7}, Right: []int{200 + i%7, 97}, Cost: uint64(5000 - i)})
	}
	return out
}

// ruleLine is a rule's line, as spec's chapter says it.
func ruleLine(r api.Rule) string {
	side := func(l []int) string {
		if len(l) == 0 {
			return "_"
		}
		s := ""
		for _, n := range l {
			s += string(rune(n))
		}
		return s
	}
	return "REP " + side(r.Left) + " " + side(r.Right) + " " + strconv.FormatUint(r.Cost, 10)
}

func ruleLines(l []api.Rule) []string {
	out := []string{}
	for _, r := range l {
		out = append(out, ruleLine(r))
	}
	return out
}

// file are lines, each with a byte 10 behind.
func file(lines ...string) string {
	s := ""
	for _, l := range lines {
		s += l + "\n"
	}
	return s
}

// slowFit says what the chapters say of a rule that fits.
func slowFit(r api.Rule) bool {
	for _, l := range [][]int{r.Left, r.Right} {
		if len(l) > 8 || slices.Equal(l, []int{95}) {
			return false
		}
		for _, n := range l {
			if n < 0 || n > 1114111 || n >= 55296 && n <= 57343 || n == 9 || n == 10 || n == 32 {
				return false
			}
		}
	}
	return !slices.Equal(r.Left, r.Right) && r.Cost < 18446744073709551615
}

// slowNorm puts each rule in its place, or makes cheaper the one that is there.
func slowNorm(l []api.Rule) []api.Rule {
	out := []api.Rule{}
	for _, r := range deep(l) {
		at := 0
		for at < len(out) && slowAhead(out[at], r) {
			at++
		}
		if at < len(out) && alikeSides(out[at], r) {
			out[at].Cost = min(out[at].Cost, r.Cost)
			continue
		}
		out = slices.Insert(out, at, r)
	}
	return out
}

// slowAhead tells whether a rule's sides stand ahead of another one's.
func slowAhead(a, b api.Rule) bool {
	if c := slices.Compare(a.Left, b.Left); c != 0 {
		return c < 0
	}
	return slices.Compare(a.Right, b.Right) < 0
}

// slowCheck says what the chapter says of costs that may be.
func slowCheck(c api.Costs) bool {
	for _, n := range []uint64{c.More, c.Less, c.Other, c.Turned} {
		if n == 18446744073709551615 {
			return false
		}
	}
	for _, r := range c.Rules {
		if !slowFit(r) {
			return false
		}
	}
	return len(c.Rules) <= 200 && alikeRules(slowNorm(c.Rules), c.Rules)
}

// slowRead says what the chapter says of a file: all rules so far are normed anew at each line.
func slowRead(s string) (api.Costs, int, api.Errno) {
	lines := strings.Split(s, "\n")
	if lines[len(lines)-1] == "" {
		lines = lines[:len(lines)-1]
	}
	out := plain()
	bases := 0
	var all []api.Rule
	for i, l := range lines {
		says, err := spec.Read([]byte(l))
		if err != api.OK {
			return api.Costs{}, i, err
		}
		if len(says.Base) == 4 {
			bases++
			if bases == 2 {
				return api.Costs{}, i, api.ErrTwice
			}
			out.More, out.Less, out.Other, out.Turned = says.Base[0], says.Base[1], says.Base[2], says.Base[3]
		}
		all = append(all, says.Rules...)
		out.Rules = slowNorm(all)
		if len(out.Rules) > 200 {
			return api.Costs{}, i, api.ErrMany
		}
	}
	return out, -1, api.OK
}

// slowWrite says what the chapter says of costs that may be.
func slowWrite(c api.Costs) string {
	s := "BASE"
	for _, n := range []uint64{c.More, c.Less, c.Other, c.Turned} {
		s += " " + strconv.FormatUint(n, 10)
	}
	return file(append([]string{s}, ruleLines(c.Rules)...)...)
}

// checkCheck holds Check, and Write of the same costs, against whether they may be.
func checkCheck(t *testing.T, c api.Costs, want bool) {
	t.Helper()
	if got := Check(c); got != want {
		t.Errorf("Check(%v) is %t", c, got)
	}
	text, fault := "", api.ErrRule
	if want {
		text, fault = slowWrite(c), api.OK
	}
	if b, err := Write(c); err != fault || string(b) != text {
		t.Errorf("Write(%v) is %q, %d, want %q, %d", c, b, err, text, fault)
	}
}

func checkRead(t *testing.T, s string, want api.Costs) {
	t.Helper()
	if got, at, err := Read([]byte(s)); err != api.OK || at != -1 || !alike(got, want) {
		t.Errorf("Read(%q) is %v, %d, %d, want %v", s, got, at, err, want)
	}
}

// checkFault holds an error and its line, and the empty answer beside it, against what is to be told.
func checkFault(t *testing.T, s string, line int, fault api.Errno) {
	t.Helper()
	if got, at, err := Read([]byte(s)); err != fault || at != line || !isZero(got) {
		t.Errorf("Read(%q) is %v, %d, %d, want line %d, %d", s, got, at, err, line, fault)
	}
}

// checkSlow holds what is read against the slow reckoning.
func checkSlow(t *testing.T, s string) {
	t.Helper()
	want, line, fault := slowRead(s)
	if fault != api.OK {
		checkFault(t, s, line, fault)
		return
	}
	checkRead(t, s, want)
}

// P8.1: Check

func TestCheckOfBaseSteps(t *testing.T) {
	checkCheck(t, api.Costs{}, true)
	for _, l := range lists([]uint64{0, 1, 1 << 63, inf - 1, inf}, 4) {
		if len(l) != 4 {
			continue
		}
		for _, rules := range [][]api.Rule{nil, {}, {from("f", "ph", 2)}} {
			checkCheck(t, costs(l[0], l[1], l[2], l[3], rules...), !slices.Contains(l, inf))
		}
	}
	for _, n := range []uint64{0, inf - 1} {
		checkCheck(t, api.Costs{More: n}, true)
		checkCheck(t, api.Costs{Less: n}, true)
		checkCheck(t, api.Costs{Other: n}, true)
		checkCheck(t, api.Costs{Turned: n}, true)
	}
	checkCheck(t, api.Costs{More: inf}, false)
	checkCheck(t, api.Costs{Less: inf}, false)
	checkCheck(t, api.Costs{Other: inf}, false)
	checkCheck(t, api.Costs{Turned: inf}, false)
}

func TestCheckOfEachNumberOfRules(t *testing.T) {
	for n := range 260 {
		checkCheck(t, plain(distinct(n)...), n <= 200)
	}
	checkCheck(t, plain(distinct(201)[1:]...), true)
	checkCheck(t, plain(distinct(201)[:200]...), true)
	checkCheck(t, plain(distinct(100000)...), false)
}

// badRules are some that do not fit, those among them that rule.Check lets be.
func badRules() []api.Rule {
	return []api.Rule{
		{}, from("a", "a", 1), from("a", "b", inf), from("abcdefghi", "a", 1), from("a", "abcdefghi", 1),
		from("_", "a", 1), from("a", "_", 1), from("a b", "c", 1), from("a", "b\t", 1), from("\n", "a", 1), from("", " ", 1),
		{Left: []int{-1}}, {Right: []int{api.LowHalf}}, {Left: []int{api.MaxRune + 1}}, {Left: []int{1<<32 + 97}, Right: word("b")}, {Right: []int{math.MinInt}},
	}
}

// One that does not fit, at each place; ahead of it, and behind, all others may be.
func TestCheckOfRulesThatDoNotFit(t *testing.T) {
	for _, bad := range badRules() {
		checkCheck(t, plain(bad), false)
		for _, n := range []int{1, 2, 199} {
			for at := 0; at <= n; at++ {
				if n == 199 && at%33 != 1 && at != 0 && at != n {
					continue
				}
				checkCheck(t, plain(slices.Insert(distinct(n), at, bad)...), false)
			}
		}
		// In its place by order, too.
		l := append(distinct(5), bad)
		slices.SortFunc(l, func(a, b api.Rule) int {
			if slowAhead(a, b) {
				return -1
			}
			return 1
		})
		checkCheck(t, plain(l...), false)
	}
}

func TestCheckOfOrder(t *testing.T) {
	a, b, c, d := from("", "z", 9), from("a", "b", 3), from("a", "bc", 2), from("ab", "", 1)
	checkCheck(t, plain(a, b, c, d), true)
	for _, l := range lists([]api.Rule{a, b, c, d}, 4) {
		checkCheck(t, plain(l...), slowCheck(plain(l...)))
	}
	for _, n := range []int{2, 3, 199, 200} {
		l := distinct(n)
		slices.Reverse(l)
		checkCheck(t, plain(l...), false)
		for _, at := range []int{0, (n - 2) / 2, n - 2} {
			l := distinct(n)
			l[at], l[at+1] = l[at+1], l[at]
			checkCheck(t, plain(l...), false)
		}
	}
	// In order of costs, but not of sides.
	checkCheck(t, plain(from("b", "a", 1), from("a", "b", 2)), false)
	checkCheck(t, plain(from("a", "c", 1), from("a", "b", 2)), false)
	// Numbers stand in order as signs do, not as digits or bytes of other writings.
	checkCheck(t, plain(from("z", "a", 1), from("ä", "a", 1), from("€", "a", 1), from("\uffff", "a", 1), from("😀", "a", 1)), true)
	checkCheck(t, plain(from("😀", "a", 1), from("\uffff", "a", 1)), false)
}

// The same sides twice may not be, in whichever order of costs, and in whichever place.
func TestCheckOfTheSameSidesTwice(t *testing.T) {
	for _, x := range [][2]uint64{{2, 2}, {2, 3}, {3, 2}, {0, 0}, {0, inf - 1}, {inf - 1, inf - 1}} {
		checkCheck(t, plain(from("f", "ph", x[0]), from("f", "ph", x[1])), false)
		for _, n := range []int{1, 2, 50, 199} {
			for _, at := range []int{0, n / 2, n - 1} {
				l := distinct(n)
				again := deep(l[at : at+1])[0]
				l[at].Cost, again.Cost = x[0], x[1]
				checkCheck(t, plain(l...), true)
				checkCheck(t, plain(slices.Insert(l, at+1, again)...), false)
			}
		}
	}
	checkCheck(t, plain(from("f", "ph", 2), from("ph", "f", 2)), true)
}

func TestCheckOfAllShortLists(t *testing.T) {
	rules := []api.Rule{
		from("", "a", 0), from("", "a", 1), from("a", "", 1), from("a", "b", 2), from("a", "bc", inf-1), from("abcdefgh", "_a", 1),
		from("b", "a", 1), from("a", "a", 1), from("a", "b", inf), from("_", "b", 1),
	}
	for _, l := range lists(rules, 4) {
		checkCheck(t, costs(0, 2, 3, inf-1, l...), slowCheck(plain(l...)))
	}
}

// Sides without numbers are alike, nil or not.
func TestCheckOfSidesWithoutNumbers(t *testing.T) {
	for _, none := range [][]int{nil, {}, word("ab")[:0]} {
		checkCheck(t, plain(api.Rule{Left: none, Right: word("a"), Cost: 3}, api.Rule{Left: word("a"), Right: none, Cost: 3}), true)
		checkCheck(t, plain(api.Rule{Left: none, Right: nil, Cost: 3}), false)
		checkCheck(t, plain(api.Rule{Left: nil, Right: word("a")}, api.Rule{Left: none, Right: word("a")}), false)
	}
}

// P8.1: Write

func checkWrite(t *testing.T, c api.Costs, want string) {
	t.Helper()
	if got, err := Write(c); err != api.OK || string(got) != want {
		t.Errorf("Write(%v) is %q, %d, want %q", c, got, err, want)
	}
}

func TestWrite(t *testing.T) {
	checkWrite(t, api.Costs{}, "BASE 0 0 0 0\n")
	checkWrite(t, plain(), "BASE 1 1 1 1\n")
	checkWrite(t, costs(1, 2, 3, 4), "BASE 1 2 3 4\n")
	checkWrite(t, costs(4, 30, 200, 1000), "BASE 4 30 200 1000\n")
	checkWrite(t, costs(inf-1, 0, 1<<63, inf-1), "BASE 18446744073709551614 0 9223372036854775808 18446744073709551614\n")
	checkWrite(t, costs(1, 2, 3, 4, from("f", "ph", 2)), "BASE 1 2 3 4\nREP f ph 2\n")
	checkWrite(t,
		costs(9, 8, 7, 6, from("", "s", 0), from("a", "ä", 1), from("f", "ph", 2), from("s", "", inf-1), from("ä", "__", 10)),
		"BASE 9 8 7 6\nREP _ s 0\nREP a \xc3\xa4 1\nREP f ph 2\nREP s _ 18446744073709551614\nREP \xc3\xa4 __ 10\n")
	checkWrite(t, plain(from("#", "|", 1), from("BASE", "REP", 1)), "BASE 1 1 1 1\nREP # | 1\nREP BASE REP 1\n")
	checkWrite(t, plain(distinct(200)...), slowWrite(plain(distinct(200)...)))
}

func TestWriteOfCostsThatMayNotBe(t *testing.T) {
	for _, c := range []api.Costs{
		costs(inf, 0, 0, 0), costs(0, inf, 0, 0), costs(0, 0, inf, 0), costs(0, 0, 0, inf), costs(inf, inf, inf, inf, distinct(3)...),
		plain(distinct(201)...), plain(badRules()[0]), plain(append(distinct(3), badRules()[0])...), plain(from("_", "a", 1)),
		plain(from("b", "a", 1), from("a", "b", 1)), plain(from("a", "b", 1), from("a", "b", 1)), plain(from("a", "b", 1), from("a", "b", 2)),
	} {
		if b, err := Write(c); err != api.ErrRule || len(b) > 0 {
			t.Errorf("Write(%v) is %q, %d", c, b, err)
		}
	}
}

// P8.2: what is read

func TestReadOfNothing(t *testing.T) {
	for _, b := range [][]byte{nil, {}, []byte("REP f ph 2")[:0]} {
		if got, at, err := Read(b); err != api.OK || at != -1 || !alike(got, plain()) {
			t.Errorf("Read(%q) is %v, %d, %d", b, got, at, err)
		}
	}
	for _, s := range []string{"\n", "\n\n\n", " ", " \n", "\t \n\n", "#", "#\n", "# BASE 2 2 2 2\n", "\n#REP f ph 2", "##\n#\xff"} {
		checkRead(t, s, plain())
	}
}

func TestReadOfOneLine(t *testing.T) {
	for s, want := range map[string]api.Costs{
		"BASE 1 2 3 4":        costs(1, 2, 3, 4),
		"BASE 4 3 2 1":        costs(4, 3, 2, 1),
		"BASE 0 0 0 0":        costs(0, 0, 0, 0),
		"BASE 1 1 1 1":        plain(),
		"REP f ph 2":          plain(from("f", "ph", 2)),
		"REP _ s 0":           plain(from("", "s", 0)),
		"REP s _ 7":           plain(from("s", "", 7)),
		"KEY ba 3":            plain(from("a", "b", 3), from("b", "a", 3)),
		"KEY qw|as|ab 3":      plain(from("a", "b", 3), from("a", "s", 3), from("b", "a", 3), from("q", "w", 3), from("s", "a", 3), from("w", "q", 3)),
		"KEY ab|ab|bab 3":     plain(from("a", "b", 3), from("b", "a", 3)),
		"KEY a|b 3":           plain(),
		"MAP äa 1":            plain(from("a", "ä", 1), from("ä", "a", 1)),
		"MAP cba 1":           plain(from("a", "b", 1), from("a", "c", 1), from("b", "a", 1), from("b", "c", 1), from("c", "a", 1), from("c", "b", 1)),
		"MAP aab 1":           plain(from("a", "b", 1), from("b", "a", 1)),
		"MAP x 1":             plain(),
		" \tREP  f\tph  2\t ": plain(from("f", "ph", 2)),
		"#REP f ph 2":         plain(),
		"BASE 18446744073709551614 0 18446744073709551614 0": costs(inf-1, 0, inf-1, 0),
	} {
		checkRead(t, s, want)
		checkRead(t, s+"\n", want)
		checkRead(t, s+"\n\n", want)
	}
}

func TestReadOfBase(t *testing.T) {
	rules := []api.Rule{from("", "s", 0), from("f", "ph", 2), from("ph", "f", 3)}
	lines := ruleLines(rules)
	for _, l := range lists([]uint64{0, 1, 7, inf - 1}, 4) {
		if len(l) != 4 {
			continue
		}
		base := strings.TrimSuffix(slowWrite(costs(l[0], l[1], l[2], l[3])), "\n")
		checkRead(t, base, costs(l[0], l[1], l[2], l[3]))
		for at := 0; at <= len(lines); at++ {
			s := strings.Join(slices.Insert(slices.Clone(lines), at, base), "\n")
			checkRead(t, s, costs(l[0], l[1], l[2], l[3], rules...))
			checkRead(t, s+"\n", costs(l[0], l[1], l[2], l[3], rules...))
		}
	}
	checkRead(t, file(lines...), plain(rules...))
}

// Two are told at the second one, alike or not, side by side or with lines between; so are more.
func TestReadOfBaseTwice(t *testing.T) {
	for _, first := range []string{"BASE 1 1 1 1", "BASE 1 2 3 4", "BASE 0 0 0 0"} {
		for _, second := range []string{"BASE 1 1 1 1", "BASE 1 2 3 4", "BASE 0 0 0 0", "\tBASE 5 6 7 8 "} {
			checkFault(t, first+"\n"+second, 1, api.ErrTwice)
			checkFault(t, file(first, second), 1, api.ErrTwice)
			checkFault(t, file(first, second, second), 1, api.ErrTwice)
			checkFault(t, file("", first, "# x", "REP f ph 2", second, "REP s _ 1"), 4, api.ErrTwice)
			checkFault(t, file("REP f ph 2", first, "KEY ab 2", "", second), 4, api.ErrTwice)
			checkFault(t, file(append(append([]string{first}, ruleLines(distinct(200))...), second)...), 201, api.ErrTwice)
			checkRead(t, file("#"+first, second), mustRead(t, second))
			checkRead(t, file(first, "#"+second), mustRead(t, first))
		}
	}
}

func mustRead(t *testing.T, s string) api.Costs {
	t.Helper()
	c, at, err := Read([]byte(s))
	if err != api.OK || at != -1 {
		t.Fatalf("Read(%q) is %d, %d", s, at, err)
	}
	return c
}

// wrongLines are lines of each error that spec.Read tells.
func wrongLines() map[string]api.Errno {
	return map[string]api.Errno{
		"XYZ": api.ErrWord, "base 1 2 3 4": api.ErrWord, "\xff": api.ErrWord, "REP\r": api.ErrWord,
		"REP f ph": api.ErrCount, "BASE 1 2 3": api.ErrCount, "BASE 1 2 3 4 5": api.ErrCount, "KEY": api.ErrCount, "MAP ab 1 1": api.ErrCount,
		"REP \xff a 1": api.ErrUtf, "KEY \xc3 1": api.ErrUtf, "MAP \xed\xa0\x80 1": api.ErrUtf, "REP \xff \xff x": api.ErrUtf,
		"REP f ph 02": api.ErrNum, "BASE 1 2 3 x": api.ErrNum, "BASE 1 2 3 18446744073709551615": api.ErrNum, "KEY ab -1": api.ErrNum, "REP a a x": api.ErrNum, "REP a b 1\r": api.ErrNum,
		"REP a a 1": api.ErrRule, "REP _ _ 1": api.ErrRule, "REP abcdefghi a 1": api.ErrRule, "KEY a_ 1": api.ErrRule, "MAP abcdefghijklm 1": api.ErrRule,
	}
}

func TestReadOfWrongLines(t *testing.T) {
	good := []string{"BASE 1 2 3 4", "REP f ph 2", "", "# x", "KEY ab|cd 3", "MAP aä 1", " ", "REP f ph 2"}
	for bad, fault := range wrongLines() {
		checkFault(t, bad, 0, fault)
		for at := 0; at <= len(good); at++ {
			lines := slices.Insert(slices.Clone(good), at, bad)
			checkFault(t, file(lines...), at, fault)
			checkFault(t, strings.Join(lines, "\n"), at, fault)
			for other := range wrongLines() {
				checkFault(t, file(slices.Insert(slices.Clone(lines), at+1, other)...), at, fault)
				checkFault(t, file(append(slices.Clone(lines), other)...), at, fault)
			}
		}
		checkFault(t, strings.Repeat("\n", 1000)+bad, 1000, fault)
		checkRead(t, file(append(good, "#"+bad)...), mustRead(t, file(good...)))
	}
}

// A line that is wrong ahead of a second Base is told, and behind it, it is not; a second Base that is itself wrong is no Base.
func TestReadOfWrongLinesBesideBases(t *testing.T) {
	base, again := "BASE 1 2 3 4", "BASE 1 2 3 4"
	for bad, fault := range wrongLines() {
		checkFault(t, file(base, bad, again), 1, fault)
		checkFault(t, file(bad, base, again), 0, fault)
		checkFault(t, file(base, again, bad), 1, api.ErrTwice)
		checkFault(t, file(base, "", again, "", bad), 2, api.ErrTwice)
		checkFault(t, file("#"+bad, base, again, bad), 2, api.ErrTwice)
	}
	checkFault(t, file(base, "BASE 1 2 3 x"), 1, api.ErrNum)
	checkFault(t, file(base, "BASE 1 2 3"), 1, api.ErrCount)
	checkFault(t, file("BASE 1 2 3 x", base), 0, api.ErrNum)
}

// P8.2: many rules

// rows is a KEY line of so many rows, each of which has two rules, no two rows the same.
func rows(n int) string {
	l := []string{}
	for i := range n {
		l = append(l, string([]rune{rune(300 + i), rune(900 + i)}))
	}
	return "KEY " + strings.Join(l, "|") + " 3"
}

func TestReadOfAsManyRulesAsMayBe(t *testing.T) {
	for n := 190; n <= 200; n++ {
		checkRead(t, file(ruleLines(distinct(n))...), plain(distinct(n)...))
	}
	for n := 201; n < 210; n++ {
		checkFault(t, file(ruleLines(distinct(n))...), 200, api.ErrMany)
	}
	l := ruleLines(distinct(201))
	checkFault(t, strings.Join(l, "\n"), 200, api.ErrMany)
	checkFault(t, file(shuffled(l, 3)...), 200, api.ErrMany)
	checkRead(t, file(l[:200]...), plain(distinct(200)...))
	checkRead(t, file(l[1:]...), plain(distinct(201)[1:]...))
	checkFault(t, "\n#\n"+strings.Join(l, "\n\n"), 402, api.ErrMany)
	checkFault(t, file(append([]string{"BASE 1 2 3 4"}, l...)...), 201, api.ErrMany)
}

func TestReadOfManyRulesOfOneLine(t *testing.T) {
	if c := mustRead(t, rows(100)); len(c.Rules) != 200 || !slowCheck(c) {
		t.Errorf("100 rows are %v", c)
	}
	checkSlow(t, rows(100))
	for _, n := range []int{101, 102, 150, 1000} {
		checkFault(t, rows(n), 0, api.ErrMany)
		checkFault(t, file("", "BASE 1 2 3 4", rows(n), "XYZ"), 2, api.ErrMany)
	}
	checkFault(t, file(rows(100), "REP a b 1"), 1, api.ErrMany)
	checkFault(t, file("REP a b 1", rows(100)), 1, api.ErrMany)
	checkFault(t, file("REP a b 1", rows(50), "", rows(100)), 3, api.ErrMany)
	checkFault(t, file(rows(99), "REP a b 1", "REP b a 2", "KEY ba 3", "KEY bac 3"), 4, api.ErrMany)
	// One line tells far more rules than may be, but most of them again.
	checkSlow(t, strings.TrimSuffix(rows(100), " 3")+strings.Repeat("|"+string([]rune{300, 900}), 300)+" 3")
	checkRead(t, "KEY "+strings.Repeat("ab|ba|", 500)+" 4", plain(from("a", "b", 4), from("b", "a", 4)))
}

// Rules that say the same sides again are not more of them, at like costs and at unlike ones, and however many there are.
func TestReadOfManyRulesWithSomeAgain(t *testing.T) {
	l := distinct(200)
	lines := ruleLines(l)
	checkRead(t, file(slices.Concat(lines, lines, lines)...), plain(l...))
	checkRead(t, file(append(slices.Repeat(lines[:1], 500), lines...)...), plain(l...))
	checkRead(t, file(shuffled(slices.Concat(lines, lines, lines[:100]), 5)...), plain(l...))
	more := ruleLine(from("a", "b", 1))
	checkFault(t, file(slices.Concat(lines, lines, []string{more})...), 400, api.ErrMany)
	checkFault(t, file(slices.Concat(lines, []string{lines[0], more, lines[0]})...), 201, api.ErrMany)
	checkFault(t, file(slices.Concat([]string{more}, lines[:199], lines[:199], lines[199:])...), 399, api.ErrMany)

	cheaper, dearer := deep(l), deep(l)
	for i := range l {
		cheaper[i].Cost--
		dearer[i].Cost += 7
	}
	checkRead(t, file(append(ruleLines(cheaper), lines...)...), plain(cheaper...))
	checkRead(t, file(append(lines, ruleLines(cheaper)...)...), plain(cheaper...))
	checkRead(t, file(slices.Concat(ruleLines(dearer), ruleLines(cheaper), lines)...), plain(cheaper...))
	checkFault(t, file(slices.Concat(ruleLines(dearer), lines, ruleLines(cheaper), []string{more})...), 600, api.ErrMany)
}

// Of lines that are wrong each in its own way the first one is told.
func TestReadOfTooManyRulesBesideOtherErrors(t *testing.T) {
	l := ruleLines(distinct(201))
	for bad, fault := range wrongLines() {
		checkFault(t, file(append(slices.Clone(l), bad)...), 200, api.ErrMany)
		checkFault(t, file(slices.Insert(slices.Clone(l), 200, bad)...), 200, fault)
		checkFault(t, file(slices.Insert(slices.Clone(l), 0, bad)...), 0, fault)
		checkFault(t, file(slices.Insert(slices.Clone(l), 17, bad)...), 17, fault)
	}
	two := []string{"BASE 1 2 3 4", "BASE 1 2 3 4"}
	checkFault(t, file(slices.Concat(l, two)...), 200, api.ErrMany)
	checkFault(t, file(slices.Concat(two, l)...), 1, api.ErrTwice)
	checkFault(t, file(slices.Concat(two[:1], l, two[1:])...), 201, api.ErrMany)
	checkFault(t, file(slices.Concat(two[:1], l[:200], two[1:], l[200:])...), 201, api.ErrTwice)
	checkFault(t, file(slices.Concat(l[:200], two, l[200:])...), 201, api.ErrTwice)
}

func TestReadOfTheSameSidesForUnlikeCosts(t *testing.T) {
	for _, x := range [][2]string{{"2", "3"}, {"0", "1"}, {"0", "18446744073709551614"}, {"9", "10"}, {"9223372036854775807", "9223372036854775808"}} {
		cheap, _ := strconv.ParseUint(x[0], 10, 64)
		first, second := "REP f ph "+x[0], "REP f ph "+x[1]
		want := plain(from("f", "ph", cheap))
		for _, l := range [][]string{{first, second}, {second, first}, {first, second, first}, {second, first, second}, {second, second, first}, {first, "", "# x", second}} {
			checkRead(t, file(l...), want)
			checkRead(t, file(append(l, "REP a b 1", "REP z b 1")...), plain(from("a", "b", 1), want.Rules[0], from("z", "b", 1)))
			checkRead(t, file(append([]string{"REP z b 1", "REP a b 1"}, l...)...), plain(from("a", "b", 1), want.Rules[0], from("z", "b", 1)))
		}
	}
	// Of lines of each kind: one may make some rules of another one cheaper, and leave others.
	checkRead(t, file("MAP abc 3", "KEY ab 2", "REP b c 1", "REP c b 4"), plain(from("a", "b", 2), from("a", "c", 3), from("b", "a", 2), from("b", "c", 1), from("c", "a", 3), from("c", "b", 3)))
	checkRead(t, file("REP c b 4", "REP b c 1", "KEY ab 2", "MAP abc 3"), plain(from("a", "b", 2), from("a", "c", 3), from("b", "a", 2), from("b", "c", 1), from("c", "a", 3), from("c", "b", 3)))
}

// someLines are lines of each kind and each error.
func someLines() []string {
	return []string{
		"", " # x", "BASE 1 2 3 4", "BASE 0 0 0 5", "BASE 1 2 3 x", "REP a b 2", "REP a b 1", "REP b a 1", "REP _ a 0",
		"KEY ab 3", "KEY ba|bc 1", "MAP cab 2", "REP a b", "REP \xff a 1", "REP a a 1", "XYZ",
	}
}

func TestReadOfAllShortFiles(t *testing.T) {
	for _, l := range lists(someLines(), 4) {
		checkSlow(t, file(l...))
		checkSlow(t, strings.Join(l, "\n"))
	}
}

// Each byte at each place of an ordinary file.
func TestReadOfEachByte(t *testing.T) {
	s := "BASE 1 2 3 4\n# x\nREP f ph 2\n\nKEY ab|c 3\nMAP b\xc3\xa4 1\nREP _ a 0"
	for at := range len(s) {
		for c := range 256 {
			checkSlow(t, s[:at]+string([]byte{byte(c)})+s[at+1:])
			checkSlow(t, s[:at]+string([]byte{byte(c)})+s[at:])
		}
		checkSlow(t, s[:at]+s[at+1:])
		checkSlow(t, s[:at])
	}
}

// A byte 13 is a line's own.
func TestReadOfOtherLineEnds(t *testing.T) {
	checkFault(t, "REP f ph 2\r\n", 0, api.ErrNum)
	checkFault(t, "REP f ph 2\n\r\n", 1, api.ErrWord)
	checkFault(t, "REP f ph 2\rREP a b 1", 0, api.ErrCount)
	checkRead(t, "# x\r\nREP f ph 2", plain(from("f", "ph", 2)))
	checkRead(t, "REP \r \v 2\n", plain(from("\r", "\v", 2)))
}

// P8.3

// someCosts are costs that may be.
func someCosts() []api.Costs {
	out := []api.Costs{
		{}, plain(), costs(1, 2, 3, 4), costs(4, 3, 2, 1), costs(inf-1, 0, inf-1, 0), costs(0, inf-1, 0, inf-1),
		plain(from("f", "ph", 2)), costs(0, 0, 0, 0, from("", "s", 0), from("s", "", inf-1)),
		costs(7, 8, 9, 10, from("", "__", 1), from("#", "|", 2), from("_a", "b_", 3), from("abcdefgh", "hgfedcba", 4), from("ä", "€", 5), from("😀", "\r", 6)),
		plain(from("", "\x00", 1), from("\x00", "", 1), from("\x00\x00", "\x00", 1)),
	}
	for _, n := range []int{1, 2, 7, 100, 199, 200} {
		out = append(out, costs(uint64(n), 2, 3, 4, distinct(n)...))
	}
	return out
}

func TestCostsAreReadAsTheyWereWritten(t *testing.T) {
	for _, c := range someCosts() {
		b, err := Write(c)
		if err != api.OK {
			t.Fatalf("Write(%v) is %d", c, err)
		}
		checkRead(t, string(b), c)
		checkRead(t, strings.TrimSuffix(string(b), "\n"), c)
		checkRead(t, strings.ReplaceAll(string(b), "\n", "\n\n# x\n"), c)
	}
}

// Unlike costs have unlike files.
func TestEachCostsHaveTheirOwnFile(t *testing.T) {
	files := map[string]api.Costs{}
	rules := [][]api.Rule{nil, {from("a", "b", 1)}, {from("a", "b", 0)}, {from("", "a", 1)}, {from("a", "", 1)}, {from("", "a", 1), from("a", "b", 1)}}
	for _, l := range lists([]uint64{0, 1, 10, 101}, 4) {
		if len(l) != 4 {
			continue
		}
		for _, r := range rules {
			c := costs(l[0], l[1], l[2], l[3], r...)
			b, err := Write(c)
			if other, has := files[string(b)]; err != api.OK || has {
				t.Errorf("%v and %v are both %q, %d", c, other, b, err)
			}
			files[string(b)] = c
		}
	}
}

func TestWhatIsReadMayBe(t *testing.T) {
	many := 0
	all := lists(someLines(), 3)
	for _, n := range []int{50, 200} {
		all = append(all, ruleLines(distinct(n)), shuffled(append(ruleLines(distinct(n)), "BASE 2 3 4 5"), uint64(n)))
	}
	all = append(all, []string{rows(100)}, []string{rows(60), rows(100)}, []string{"MAP abcdefghijkl 2", "KEY lk|ba 1"})
	for _, l := range all {
		c, at, err := Read([]byte(file(l...)))
		if err != api.OK {
			continue
		}
		many++
		if at != -1 || !Check(c) || !slowCheck(c) {
			t.Errorf("Read(%q) is %v, which may not be", l, c)
		}
		for i, r := range c.Rules {
			if !spec.Fit(r) || i > 0 && !rule.Less(c.Rules[i-1], r) {
				t.Errorf("Read(%q) has %v", l, r)
			}
		}
		b, fault := Write(c)
		if fault != api.OK {
			t.Errorf("Read(%q) is %v, which is not written: %d", l, c, fault)
		}
		checkRead(t, string(b), c)
	}
	if many < 500 {
		t.Errorf("only %d files were read", many)
	}
}

// goodFiles are lines of files that are not wrong.
func goodFiles() [][]string {
	return [][]string{
		{}, {"BASE 1 2 3 4"}, {"REP f ph 2"}, {"BASE 1 2 3 4", "REP f ph 2", "REP f ph 1", "REP ph f 1"},
		{"KEY qwe|asd 3", "MAP qa 1", "REP q a 2", "REP a q 0", "BASE 9 9 9 9"}, {"MAP abc 3", "KEY ab 2", "REP b c 1", "REP c b 4"},
		append(ruleLines(distinct(200)), "BASE 5 6 7 8", ruleLine(distinct(1)[0])), {rows(100), "BASE 0 0 0 0", rows(30)},
	}
}

func TestBareLinesDoNotMatter(t *testing.T) {
	for _, l := range goodFiles() {
		want := mustRead(t, file(l...))
		for _, bare := range []string{"", " ", "\t \t", "#", "# BASE 7 7 7 7", " #REP a a x", "#\xff"} {
			for at := 0; at <= len(l); at++ {
				if len(l) > 50 && at%50 != 0 && at != len(l) {
					continue
				}
				checkRead(t, file(slices.Insert(slices.Clone(l), at, bare)...), want)
				checkRead(t, strings.Join(slices.Insert(slices.Clone(l), at, bare, bare), "\n"), want)
			}
			checkRead(t, file(bare, bare)+strings.Join(l, "\n"+bare+"\n")+"\n"+bare, want)
		}
	}
}

func TestOrderOfLinesDoesNotMatter(t *testing.T) {
	for _, l := range goodFiles() {
		want := mustRead(t, file(l...))
		for seed := range uint64(20) {
			checkRead(t, file(shuffled(l, seed)...), want)
			checkRead(t, strings.Join(shuffled(l, seed+50), "\n"), want)
		}
		back := slices.Clone(l)
		slices.Reverse(back)
		checkRead(t, file(back...), want)
	}
	// Whether a file is wrong does not hang on it, either, though which line is told does.
	for _, l := range lists(someLines(), 3) {
		_, _, fault := Read([]byte(file(l...)))
		back := slices.Clone(l)
		slices.Reverse(back)
		if _, _, err := Read([]byte(file(back...))); (err == api.OK) != (fault == api.OK) {
			t.Errorf("Read(%q) is %d, the other way round %d", l, fault, err)
		}
	}
}

// R1, R4

func TestReadOfLongFiles(t *testing.T) {
	const n = 50000
	lines := ruleLines(distinct(200))
	whole := file(lines...)
	checkRead(t, whole+strings.Repeat("\n", n), plain(distinct(200)...))
	checkRead(t, whole+strings.Repeat("# x\n", n), plain(distinct(200)...))
	checkRead(t, strings.Repeat(whole, n/200), plain(distinct(200)...))
	checkRead(t, strings.Repeat("REP f ph 3\n", n)+"REP f ph 2", plain(from("f", "ph", 2)))
	checkFault(t, strings.Repeat("KEY ab 1\n", n)+"KEY ab x", n, api.ErrNum)
	checkFault(t, strings.Repeat(whole, n/200)+"REP a b 1", n, api.ErrMany)
	checkFault(t, rows(n), 0, api.ErrMany)
	checkFault(t, strings.Repeat("x", n), 0, api.ErrWord)
}

func TestTheSameEachTime(t *testing.T) {
	s := file(slices.Concat(ruleLines(distinct(150)), []string{"BASE 4 5 6 7", rows(20), rows(25)})...)
	want, _, fault := slowRead(s)
	if fault != api.OK {
		t.Fatal(fault)
	}
	for range 20 {
		checkRead(t, s, want)
		checkCheck(t, want, true)
	}
}

// R3

func TestReadChangesNothing(t *testing.T) {
	for _, s := range append(someLines(), file(ruleLines(distinct(201))...), file("BASE 1 2 3 4", "KEY ab|cd 3", "REP a b 1", "", "# x", "MAP bca 2"), file("BASE 1 1 1 1", "BASE 1 1 1 1")) {
		whole := []byte("REP x y 9\n" + s + " KEY ab 3\n\xff_|\n")
		kept := slices.Clone(whole)
		b := whole[10 : 10+len(s)]
		want, line, fault := slowRead(s)
		got, at, err := Read(b)
		if !alike(got, want) || at != line || err != fault {
			t.Errorf("Read(%q), with more behind, is %v, %d, %d", s, got, at, err)
		}
		if !bytes.Equal(whole, kept) {
			t.Errorf("%q became %q", kept, whole)
		}
		for i := range whole {
			whole[i] = 'z'
		}
		if !alike(got, want) {
			t.Errorf("Read(%q) became %v", s, got)
		}
		checkSlow(t, s)
	}
}

// roomy are costs whose sides lie over each other in one row, with spare room, and whose rules have spare room, too.
func roomy() (api.Costs, []int) {
	row := []int{102, 112, 104, 97, 98, 102, 112, 104, -1, 95, 32}
	l := []api.Rule{
		{Left: row[4:4], Right: row[3:5], Cost: 1},
		{Left: row[3:5], Right: row[4:4], Cost: 1},
		{Left: row[0:1], Right: row[1:3], Cost: 3},
		{Left: row[5:7], Right: row[6:8], Cost: 2},
		{Left: row[1:3], Right: row[0:1], Cost: 0},
		{Left: row[0:1], Right: row[0:1], Cost: 0},
		{Left: row[0:1], Right: row[7:9], Cost: 0},
		{Left: row[0:1], Right: row[8:11], Cost: 0},
	}
	return costs(2, 3, 4, 5, l[:5]...), row
}

func TestCheckAndWriteChangeNothing(t *testing.T) {
	c, row := roomy()
	for n := range cap(c.Rules) + 1 {
		x := c
		x.Rules = c.Rules[:n]
		whole := c.Rules[:cap(c.Rules)]
		rules, kept := deep(whole), slices.Clone(row)
		checkCheck(t, x, n <= 5)
		checkCheck(t, x, n <= 5)
		if !alikeRules(whole, rules) || !slices.Equal(row, kept) {
			t.Errorf("%v of %v became %v of %v", rules, kept, whole, row)
		}
	}
	if &c.Rules[0].Right[0] != &row[3] || &c.Rules[2].Left[0] != &row[0] {
		t.Error("the rules' sides are others")
	}
	back := plain(from("b", "a", 1), from("a", "b", 1), from("a", "b", 1))
	kept := deepCosts(back)
	checkCheck(t, back, false)
	if !alike(back, kept) {
		t.Errorf("%v became %v", kept, back)
	}
}

// What was written is not the costs' memory, nor what is written next.
func TestWriteKeepsNothing(t *testing.T) {
	for _, c := range someCosts() {
		want := slowWrite(c)
		first, _ := Write(c)
		second, _ := Write(c)
		kept := deepCosts(c)
		for i := range first[:cap(first)] {
			first[:cap(first)][i] = 'z'
		}
		if string(second) != want || !alike(c, kept) {
			t.Errorf("%q of %v became %q of %v", want, kept, second, c)
		}
		x := deepCosts(c)
		third, _ := Write(x)
		for i := range x.Rules {
			x.Rules[i].Cost = 77
			for j := range x.Rules[i].Left {
				x.Rules[i].Left[j] = 7
			}
		}
		if string(third) != want {
			t.Errorf("%q became %q", want, third)
		}
		checkWrite(t, c, want)
	}
}

// Each list of an answer, changed up to its spare room's end, and with more put behind, changes nothing else.
func TestAnswersShareNoMemory(t *testing.T) {
	for _, l := range append(goodFiles(), []string{"REP abc abd 1"}, []string{"KEY aba|ab 1"}, []string{"MAP aab 1"}, []string{"MAP ab 1", "KEY cba 2"}) {
		s := file(l...)
		want, _, _ := slowRead(s)
		first, _, _ := Read([]byte(s))
		second, _, _ := Read([]byte(s))
		var sides []*[]int
		for i := range first.Rules {
			sides = append(sides, &first.Rules[i].Left, &first.Rules[i].Right)
		}
		for i, side := range sides {
			checkChangedAlone(t, sides, i, side)
		}
		clear(first.Rules[:cap(first.Rules)])
		if !alike(second, want) {
			t.Errorf("Read(%q) became %v", s, second)
		}
		checkRead(t, s, want)
	}
}

// checkChangedAlone changes one side, and holds all others against what they were.
func checkChangedAlone(t *testing.T, sides []*[]int, i int, side *[]int) {
	t.Helper()
	var rest [][]int
	for _, o := range sides {
		rest = append(rest, slices.Clone(*o))
	}
	room := (*side)[:cap(*side)]
	for j := range room {
		room[j] = -5
	}
	*side = append(*side, -6)
	for k, o := range sides {
		if k != i && !slices.Equal(*o, rest[k]) {
			t.Errorf("side %d changed with side %d", k, i)
		}
	}
}
