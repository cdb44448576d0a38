package image

import (
	"bytes"
	"encoding/binary"
	"hash/crc32"
	"math"
	"math/big"
	"runtime"
	"slices"
	"testing"

	"spellwright/api"
)

// state is one that may be Final, with arcs of these signs and places, by turns.
func state(final bool, arcs ...int) api.State {
	s := api.State{Final: final}
	for i := 0; i < len(arcs); i += 2 {
		s.Arcs = append(s.Arcs, api.Arc{Sign: arcs[i], To: arcs[i+1]})
	}
	return s
}

// of are states with costs 1, 1, 1, 1.
func of(l ...api.State) api.Image {
	return api.Image{States: l, Costs: costs(1, 1, 1, 1)}
}

func costs(more, less, other, turned uint64, l ...api.Rule) api.Costs {
	return api.Costs{More: more, Less: less, Other: other, Turned: turned, Rules: l}
}

// ruled is one state, with costs 1, 1, 1, 1 and rules.
func ruled(l ...api.Rule) api.Image {
	return api.Image{States: []api.State{{}}, Costs: costs(1, 1, 1, 1, l...)}
}

func word(s string) []int {
	l := []int{}
	for _, r := range s {
		l = append(l, int(r))
	}
	return l
}

func from(left, right string, cost uint64) api.Rule {
	return api.Rule{Left: word(left), Right: word(right), Cost: cost}
}

func deepStates(l []api.State) []api.State {
	out := []api.State{}
	for _, s := range l {
		out = append(out, api.State{Final: s.Final, Arcs: slices.Clone(s.Arcs)})
	}
	return out
}

func deepRules(l []api.Rule) []api.Rule {
	out := []api.Rule{}
	for _, r := range l {
		out = append(out, api.Rule{Left: slices.Clone(r.Left), Right: slices.Clone(r.Right), Cost: r.Cost})
	}
	return out
}

func deep(x api.Image) api.Image {
	x.States, x.Costs.Rules = deepStates(x.States), deepRules(x.Costs.Rules)
	return x
}

func alikeStates(a, b []api.State) bool {
	return slices.EqualFunc(a, b, func(x, y api.State) bool { return x.Final == y.Final && slices.Equal(x.Arcs, y.Arcs) })
}

func alikeSides(a, b api.Rule) bool {
	return slices.Equal(a.Left, b.Left) && slices.Equal(a.Right, b.Right)
}

func alikeRules(a, b []api.Rule) bool {
	return slices.EqualFunc(a, b, func(x, y api.Rule) bool { return alikeSides(x, y) && x.Cost == y.Cost })
}

func alikeCosts(a, b api.Costs) bool {
	return a.More == b.More && a.Less == b.Less && a.Other == b.Other && a.Turned == b.Turned && alikeRules(a.Rules, b.Rules)
}

func alike(a, b api.Image) bool {
	return alikeStates(a.States, b.States) && alikeCosts(a.Costs, b.Costs)
}

// lists are the lists of at most so many of these, the shorter ones first.
func lists[T any](of []T, long int) [][]T {
	out := [][]T{{}}
	begin := 0
	for range long {
		end := len(out)
		for _, l := range out[begin:end] {
			for _, x := range of {
				out = append(out, append(slices.Clone(l), x))
			}
		}
		begin = end
	}
	return out
}

// dice are numbers that look like any, the same each time.
type dice uint64

func (d *dice) next() uint64 {
	*d = *d*6364136223846793005 + 1442695040888963407
	n := uint64(*d)
	return (n ^ n>>29) * 0xbf58476d1ce4e5b9
}

func (d *dice) below(n int) int {
	return int(d.next() >> 20 % uint64(n))
}

// number is one of any size, small ones as often as great ones, and the edges of bytes more often.
func (d *dice) number() uint64 {
	n := d.next() >> d.below(64)
	switch d.below(4) {
	case 0:
		return 1<<(7*d.below(10)) - uint64(d.below(2))
	case 1:
		return uint64(d.below(3))
	}
	return n
}

// edgeSigns are signs at the edges of what is one, and ordinary ones, as they rise.
func edgeSigns() []int {
	return []int{0, 1, 9, 10, 32, 95, 97, 98, 99, 127, 128, 129, 228, 8364, 16383, 16384, 16385, 55294, 55295, 57344, 57345, 65535, 65536, 1114110, 1114111}
}

// ruleSigns are those of them that a rule's sides may have.
func ruleSigns() []int {
	return slices.DeleteFunc(edgeSigns(), func(n int) bool { return n == 9 || n == 10 || n == 32 })
}

// automaton is one of so many states, with some arcs by signs of these.
func (d *dice) automaton(many, arcs int, signs []int) []api.State {
	l := make([]api.State, many)
	for at := range l {
		l[at].Final = d.below(3) == 0
		for _, n := range signs {
			if at < many-1 && d.below(len(signs)) < arcs {
				l[at].Arcs = append(l[at].Arcs, api.Arc{Sign: n, To: at + 1 + d.below(many-1-at)})
			}
		}
	}
	return l
}

func (d *dice) side() []int {
	l := []int{}
	signs := ruleSigns()
	for range d.below(9) {
		l = append(l, signs[d.below(len(signs))])
	}
	return l
}

func (d *dice) costs(many int) api.Costs {
	l := []api.Rule{}
	for range many {
		r := api.Rule{Left: d.side(), Right: d.side(), Cost: min(d.number(), 18446744073709551614)}
		if slowFit(r) {
			l = append(l, r)
		}
	}
	c := costs(d.number(), d.number(), d.number(), d.number(), slowNorm(l)...)
	for _, n := range []*uint64{&c.More, &c.Less, &c.Other, &c.Turned} {
		*n = min(*n, 18446744073709551614)
	}
	return c
}

// goodSign says what the chapters say of a sign.
func goodSign(n int) bool {
	return n >= 0 && n < 55296 || n > 57343 && n <= 1114111
}

// slowAuto says what the chapter of automata says of one that may be.
func slowAuto(l []api.State) bool {
	for at, s := range l {
		for i, a := range s.Arcs {
			if !goodSign(a.Sign) || !(at < a.To && a.To < len(l)) || i > 0 && s.Arcs[i-1].Sign >= a.Sign {
				return false
			}
		}
	}
	return 1 <= len(l) && len(l) <= 6001
}

// slowFit says what the chapters say of a rule that fits.
func slowFit(r api.Rule) bool {
	for _, l := range [][]int{r.Left, r.Right} {
		if len(l) > 8 || slices.Equal(l, []int{95}) {
			return false
		}
		for _, n := range l {
			if !goodSign(n) || n == 9 || n == 10 || n == 32 {
				return false
			}
		}
	}
	return !slices.Equal(r.Left, r.Right) && r.Cost < 18446744073709551615
}

// compareSides is less than 0 if a's sides stand ahead of b's.
func compareSides(a, b api.Rule) int {
	if c := slices.Compare(a.Left, b.Left); c != 0 {
		return c
	}
	return slices.Compare(a.Right, b.Right)
}

// slowNorm are the rules in order, those of the same sides once.
func slowNorm(l []api.Rule) []api.Rule {
	out := slices.Clone(l)
	slices.SortStableFunc(out, compareSides)
	return slices.CompactFunc(out, alikeSides)
}

// slowCosts says what the chapter of rule files says of costs that may be.
func slowCosts(c api.Costs) bool {
	for _, n := range []uint64{c.More, c.Less, c.Other, c.Turned} {
		if n == 18446744073709551615 {
			return false
		}
	}
	for i, r := range c.Rules {
		if !slowFit(r) || i > 0 && compareSides(c.Rules[i-1], r) >= 0 {
			return false
		}
	}
	return len(c.Rules) <= 200
}

// slowNumbers are an image's numbers, as the chapter says them.
func slowNumbers(x api.Image) []uint64 {
	l := []uint64{uint64(len(x.States))}
	for at, s := range x.States {
		first := uint64(len(s.Arcs) + len(s.Arcs))
		if s.Final {
			first++
		}
		l = append(l, first)
		for i, a := range s.Arcs {
			sign := a.Sign
			if i > 0 {
				sign = a.Sign - s.Arcs[i-1].Sign - 1
			}
			l = append(l, uint64(sign), uint64(a.To-at-1))
		}
	}
	l = append(l, x.Costs.More, x.Costs.Less, x.Costs.Other, x.Costs.Turned, uint64(len(x.Costs.Rules)))
	for _, r := range x.Costs.Rules {
		for _, side := range [][]int{r.Left, r.Right} {
			l = append(l, uint64(len(side)))
			for _, n := range side {
				l = append(l, uint64(n))
			}
		}
		l = append(l, r.Cost)
	}
	return l
}

// numberBytes are one number's bytes.
func numberBytes(n uint64) []byte {
	b := []byte{}
	for n >= 128 {
		b = append(b, byte(n%128+128))
		n /= 128
	}
	return append(b, byte(n))
}

// longer are the bytes of a number with so many more than it needs.
func longer(n uint64, more int) []byte {
	b := numberBytes(n)
	b[len(b)-1] += 128
	b = append(b, bytes.Repeat([]byte{128}, more-1)...)
	return append(b, 0)
}

func bytesOf(l ...uint64) []byte {
	b := []byte{}
	for _, n := range l {
		b = append(b, numberBytes(n)...)
	}
	return b
}

// sealed are bytes with their sum behind, as the library reckons it.
func sealed(b []byte) []byte {
	return binary.LittleEndian.AppendUint32(bytes.Clone(b), crc32.ChecksumIEEE(b))
}

// slowWrite says what the chapter says of an image's bytes.
func slowWrite(x api.Image) ([]byte, api.Errno) {
	if !slowAuto(x.States) {
		return nil, api.ErrAuto
	}
	if !slowCosts(x.Costs) {
		return nil, api.ErrRule
	}
	return sealed(bytesOf(slowNumbers(x)...)), api.OK
}

// taken are all numbers of bytes, and whether they are numbers' from the first one to the last.
func taken(b []byte) ([]uint64, bool) {
	l := []uint64{}
	for len(b) > 0 {
		n, size := binary.Uvarint(b)
		if size <= 0 || !bytes.Equal(numberBytes(n), b[:size]) {
			return nil, false
		}
		l = append(l, n)
		b = b[size:]
	}
	return l, true
}

// reader takes numbers one by one, as exact ones, of which none is too great; wrong is whether one was missing, or beyond what it may be.
type reader struct {
	left  []uint64
	wrong bool
}

// next is the next number, together with another one, if both together are no more than most.
func (r *reader) next(most, more int64) int {
	if len(r.left) == 0 {
		r.wrong = true
		return 0
	}
	n := new(big.Int).Add(new(big.Int).SetUint64(r.left[0]), big.NewInt(more))
	r.left = r.left[1:]
	if n.Cmp(big.NewInt(most)) > 0 {
		r.wrong = true
		return 0
	}
	return int(n.Int64())
}

func (r *reader) cost() uint64 {
	if len(r.left) == 0 {
		r.wrong = true
		return 0
	}
	n := r.left[0]
	r.left = r.left[1:]
	return n
}

func (r *reader) side() []int {
	l := []int{}
	for range r.next(8, 0) {
		l = append(l, r.next(1114111, 0))
	}
	return l
}

func (r *reader) states() []api.State {
	l := []api.State{}
	many := r.next(6001, 0)
	for at := 0; at < many && !r.wrong; at++ {
		first := r.next(2*1114112+1, 0)
		s := api.State{Final: first%2 == 1}
		last := int64(-1)
		for i := 0; i < first/2 && !r.wrong; i++ {
			a := api.Arc{Sign: r.next(1114111, last+1), To: r.next(6000, int64(at)+1)}
			s.Arcs = append(s.Arcs, a)
			last = int64(a.Sign)
		}
		l = append(l, s)
	}
	return l
}

// slowRead says what the chapter says of bytes: which image has these?
func slowRead(b []byte) (api.Image, api.Errno) {
	if len(b) < 4 || !bytes.Equal(sealed(b[:len(b)-4]), b) {
		return api.Image{}, api.ErrCrc
	}
	l, is := taken(b[:len(b)-4])
	r := reader{left: l, wrong: !is}
	x := api.Image{States: r.states()}
	x.Costs = costs(r.cost(), r.cost(), r.cost(), r.cost())
	many := r.next(200, 0)
	for i := 0; i < many && !r.wrong; i++ {
		x.Costs.Rules = append(x.Costs.Rules, api.Rule{Left: r.side(), Right: r.side(), Cost: r.cost()})
	}
	if r.wrong || len(r.left) > 0 || !slowAuto(x.States) || !slowCosts(x.Costs) {
		return api.Image{}, api.ErrForm
	}
	return x, api.OK
}

// brief is an image, or how many states and rules it has, if there are many.
func brief(x api.Image) any {
	if len(x.States) > 20 || len(x.Costs.Rules) > 20 {
		return [2]int{len(x.States), len(x.Costs.Rules)}
	}
	return x
}

func briefBytes(b []byte) any {
	if len(b) > 200 {
		return len(b)
	}
	return b
}

// checkWrite holds the bytes of an image against its numbers.
func checkWrite(t *testing.T, x api.Image, l ...uint64) {
	t.Helper()
	want := sealed(bytesOf(l...))
	got, err := Write(x)
	if err != api.OK || !bytes.Equal(got, want) {
		t.Errorf("Write(%v) is %v, %d, want %v", brief(x), briefBytes(got), err, briefBytes(want))
	}
}

func checkUnwritten(t *testing.T, x api.Image, fault api.Errno) {
	t.Helper()
	if got, err := Write(x); err != fault || len(got) > 0 {
		t.Errorf("Write(%v) is %v, %d, want %d", brief(x), briefBytes(got), err, fault)
	}
}

func checkRead(t *testing.T, b []byte, want api.Image) {
	t.Helper()
	if got, err := Read(b); err != api.OK || !alike(got, want) {
		t.Errorf("Read(%v) is %v, %d, want %v", briefBytes(b), brief(got), err, brief(want))
	}
}

// checkUnread holds an error of Read, and the empty answer beside it, against what is to be told.
func checkUnread(t *testing.T, b []byte, fault api.Errno) {
	t.Helper()
	if got, err := Read(b); err != fault || !alike(got, api.Image{}) {
		t.Errorf("Read(%v) is %v, %d, want %d", briefBytes(b), brief(got), err, fault)
	}
}

// checkUnreadNumbers holds it of numbers, with a right sum.
func checkUnreadNumbers(t *testing.T, l ...uint64) {
	t.Helper()
	checkUnread(t, sealed(bytesOf(l...)), api.ErrForm)
}

// checkSlow holds Read against what the chapter says, and tells what that was.
func checkSlow(t *testing.T, b []byte) api.Errno {
	t.Helper()
	want, fault := slowRead(b)
	if fault != api.OK {
		checkUnread(t, b, fault)
		return fault
	}
	checkRead(t, b, want)
	return fault
}

// row are so many states, each of which leads to the next one.
func row(n int) []api.State {
	l := make([]api.State, n)
	for at := range l {
		l[at].Final = at%3 == 0
		if at < n-1 {
			l[at].Arcs = []api.Arc{{Sign: 97 + at%26, To: at + 1}}
		}
	}
	return l
}

// distinct are so many rules in order, that may be, none of the same sides as another one; costs fall, so that they are not in order of these.
func distinct(n int) []api.Rule {
	out := []api.Rule{}
	for i := range n {
		out = append(out, api.Rule{Left: []int{300 + i/7}, Right: []int{200 + i%7, 97}, Cost: uint64(5000 - i)})
	}
	return out
}

// longSides are so many rules in order, each of both sides as long as they may be.
func longSides(n int) []api.Rule {
	out := []api.Rule{}
	for i := range n {
		out = append(out, api.Rule{Left: slices.Repeat([]int{1000 + i}, 8), Right: slices.Repeat([]int{api.MaxRune}, 8), Cost: api.Inf - 1})
	}
	return out
}

// someStates are automata that may be.
func someStates() [][]api.State {
	d := dice(7)
	signs := edgeSigns()
	var wide api.State
	for _, n := range signs {
		wide.Arcs = append(wide.Arcs, api.Arc{Sign: n, To: 1})
	}
	out := [][]api.State{
		{state(false)}, {state(true)},
		{state(false, 97, 1), state(true)}, {state(true, 97, 1), state(true)}, {state(false, 0, 1), state(false)}, {state(false, api.MaxRune, 1), state(true)},
		{state(false, 97, 1, 98, 1), state(true)}, {state(false, 97, 1, 98, 2, 99, 1), state(true), state(false)}, {state(false, 97, 2, 99, 1), state(true, 0, 2, api.MaxRune, 2), state(true)},
		{state(false, api.LowHalf-1, 1, api.HighHalf+1, 2), state(false, api.LowHalf-2, 2, api.LowHalf-1, 2), state(true)},
		{state(false), state(false), state(true)}, {state(true), state(true, 5, 2), state(true, 5, 3), state(false)},
		{wide, state(true)}, row(2), row(3), row(127), row(128), row(129), row(300),
	}
	for many := 1; many < 40; many++ {
		out = append(out, d.automaton(many, 1+many%5, signs), d.automaton(many, 3, signs[5:10]))
	}
	return out
}

// someCosts are costs that may be.
func someCosts() []api.Costs {
	d := dice(11)
	out := []api.Costs{
		{}, costs(1, 1, 1, 1), costs(1, 2, 3, 4), costs(api.Inf-1, api.Inf-1, api.Inf-1, api.Inf-1), costs(127, 128, 16383, 16384),
		costs(1, 1, 1, 1, from("f", "ph", 2)), costs(0, 0, 0, 0, from("", "s", 0)), costs(9, 9, 9, 9, from("s", "", api.Inf-1)),
		costs(1, 2, 3, 4, from("", "a", 0), from("", "aa", 1), from("a", "", 127), from("a", "b", 128), from("aa", "", 3), from("b", "a", 3)),
		costs(1, 1, 1, 1, from("__", "_a", 2), from("a_", "__", 2)),
		costs(5, 6, 7, 8, distinct(3)...), costs(5, 6, 7, 8, distinct(127)...), costs(5, 6, 7, 8, distinct(128)...), costs(5, 6, 7, 8, distinct(200)...),
		costs(5, 6, 7, 8, longSides(1)...), costs(5, 6, 7, 8, longSides(200)...),
	}
	for many := range 30 {
		out = append(out, d.costs(many))
	}
	return out
}

// someImages are each of the automata with each of the costs, but those that are long with each other.
func someImages() []api.Image {
	out := []api.Image{}
	for _, l := range someStates() {
		for _, c := range someCosts() {
			if len(l)*len(c.Rules) < 3000 {
				out = append(out, api.Image{States: l, Costs: c})
			}
		}
	}
	return out
}

// shortImages are a few whose bytes are gone through one by one.
func shortImages() []api.Image {
	wide := api.Image{States: []api.State{state(true, 0, 1, 1, 3, 127, 2, 255, 3), state(false, 55295, 3, 57344, 2), state(false, 8364, 3, 1114111, 3), state(true)}}
	wide.Costs = costs(0, 127, 128, api.Inf-1, from("", "ss", 300), from("f", "ph", 2), from("€", "😀_", api.Inf-1))
	return []api.Image{
		of(state(false)), of(state(true)), of(state(false, 97, 1), state(true)), of(state(false, 97, 1, 98, 2), state(true, 97, 2), state(true)),
		ruled(from("f", "ph", 2)), ruled(from("", "a", 0), from("", "b", 0)), ruled(from("ab", "ba", 1), from("ab", "bb", 1), from("b", "", 1)), wide,
	}
}

// P15.1

func TestWriteOfTheExample(t *testing.T) {
	b, err := Write(api.Image{States: make([]api.State, 1), Costs: api.Costs{More: 1, Less: 1, Other: 1, Turned: 1}})
	if err != api.OK || !bytes.Equal(b, []byte{1, 0, 1, 1, 1, 1, 0, 105, 193, 30, 166}) {
		t.Errorf("%v, %d", b, err)
	}
}

func TestWriteOfOneState(t *testing.T) {
	checkWrite(t, of(state(false)), 1, 0, 1, 1, 1, 1, 0)
	checkWrite(t, of(state(true)), 1, 1, 1, 1, 1, 1, 0)
	checkWrite(t, of(api.State{Arcs: []api.Arc{}}), 1, 0, 1, 1, 1, 1, 0)
	for _, x := range []api.Arc{{Sign: 97, To: 1}, {Sign: 97, To: 0}, {Sign: 97, To: -1}} {
		checkUnwritten(t, of(api.State{Arcs: []api.Arc{x}}), api.ErrAuto)
	}
}

func TestWriteOfArcs(t *testing.T) {
	checkWrite(t, of(state(false, 97, 1), state(true)), 2, 2, 97, 0, 1, 1, 1, 1, 1, 0)
	checkWrite(t, of(state(true, 97, 1), state(false)), 2, 3, 97, 0, 0, 1, 1, 1, 1, 0)
	// The sign 0, and the greatest one.
	checkWrite(t, of(state(false, 0, 1), state(true)), 2, 2, 0, 0, 1, 1, 1, 1, 1, 0)
	checkWrite(t, of(state(false, 1114111, 1), state(true)), 2, 2, 1114111, 0, 1, 1, 1, 1, 1, 0)
	checkWrite(t, of(state(false, 0, 1, 1114111, 1), state(true)), 2, 4, 0, 0, 1114110, 0, 1, 1, 1, 1, 1, 0)
	// Signs next to each other, and far apart.
	checkWrite(t, of(state(false, 97, 1, 98, 1, 99, 1), state(true)), 2, 6, 97, 0, 0, 0, 0, 0, 1, 1, 1, 1, 1, 0)
	checkWrite(t, of(state(false, 0, 1, 1, 1, 2, 1), state(true)), 2, 6, 0, 0, 0, 0, 0, 0, 1, 1, 1, 1, 1, 0)
	checkWrite(t, of(state(false, 97, 1, 99, 1), state(true)), 2, 4, 97, 0, 1, 0, 1, 1, 1, 1, 1, 0)
	checkWrite(t, of(state(false, 32, 1, 97, 1, 228, 1, 8364, 1), state(true)), 2, 8, 32, 0, 64, 0, 130, 0, 8135, 0, 1, 1, 1, 1, 1, 0)
	// Those on both sides of the signs that are none.
	checkWrite(t, of(state(false, 55295, 1, 57344, 1), state(true)), 2, 4, 55295, 0, 2048, 0, 1, 1, 1, 1, 1, 0)
	// To the next state, and to the last one.
	checkWrite(t, of(state(false, 97, 1, 98, 2, 99, 3), state(false, 97, 3), state(false, 97, 3), state(true)), 4, 6, 97, 0, 0, 1, 0, 2, 2, 97, 1, 2, 97, 0, 1, 1, 1, 1, 1, 0)
	checkWrite(t, of(state(false, 97, 3, 98, 1), state(true, 97, 2, 99, 2), state(true), state(true)), 4, 4, 97, 2, 0, 0, 5, 97, 0, 1, 0, 1, 1, 1, 1, 1, 1, 0)
	// States that nothing leads to.
	checkWrite(t, of(state(false), state(true), state(false)), 3, 0, 1, 0, 1, 1, 1, 1, 0)
	checkWrite(t, of(state(true), state(false, 98, 2), state(true)), 3, 1, 2, 98, 0, 1, 1, 1, 1, 1, 0)
}

func TestWriteOfCosts(t *testing.T) {
	one := []api.State{{}}
	checkWrite(t, api.Image{States: one}, 1, 0, 0, 0, 0, 0, 0)
	checkWrite(t, api.Image{States: one, Costs: costs(1, 2, 3, 4)}, 1, 0, 1, 2, 3, 4, 0)
	checkWrite(t, api.Image{States: one, Costs: api.Costs{Rules: []api.Rule{}}}, 1, 0, 0, 0, 0, 0, 0)
	const great = 18446744073709551614
	checkWrite(t, api.Image{States: one, Costs: costs(great, 127, 128, great)}, 1, 0, great, 127, 128, great, 0)
	checkWrite(t, api.Image{States: one, Costs: costs(300, 0, great, 1<<63)}, 1, 0, 300, 0, great, 1<<63, 0)
	checkWrite(t, ruled(from("f", "ph", 2)), 1, 0, 1, 1, 1, 1, 1, 1, 102, 2, 112, 104, 2)
	checkWrite(t, ruled(from("", "s", 0)), 1, 0, 1, 1, 1, 1, 1, 0, 1, 115, 0)
	checkWrite(t, ruled(from("s", "", great)), 1, 0, 1, 1, 1, 1, 1, 1, 115, 0, great)
	checkWrite(t, ruled(api.Rule{Right: []int{0}, Cost: 9}), 1, 0, 1, 1, 1, 1, 1, 0, 1, 0, 9)
	checkWrite(t, ruled(api.Rule{Left: []int{55295, 57344}, Right: []int{1114111}, Cost: 9}), 1, 0, 1, 1, 1, 1, 1, 2, 55295, 57344, 1, 1114111, 9)
	checkWrite(t, ruled(from("abcdefgh", "hgfedcba", 7)), 1, 0, 1, 1, 1, 1, 1, 8, 97, 98, 99, 100, 101, 102, 103, 104, 8, 104, 103, 102, 101, 100, 99, 98, 97, 7)
	checkWrite(t, ruled(from("a", "b", 5), from("b", "a", 4)), 1, 0, 1, 1, 1, 1, 2, 1, 97, 1, 98, 5, 1, 98, 1, 97, 4)
	checkWrite(t, ruled(from("a", "b", 5), from("aa", "b", 4), from("b", "", 0)), 1, 0, 1, 1, 1, 1, 3, 1, 97, 1, 98, 5, 2, 97, 97, 1, 98, 4, 1, 98, 0, 0)
}

func TestWriteOfManyStates(t *testing.T) {
	for _, n := range []int{2, 3, 127, 128, 129, 300, 6000, 6001} {
		want := []uint64{uint64(n)}
		for at := range n {
			f := uint64(0)
			if at%3 == 0 {
				f = 1
			}
			if at < n-1 {
				want = append(want, 2+f, uint64(97+at%26), 0)
			} else {
				want = append(want, f)
			}
		}
		checkWrite(t, of(row(n)...), append(want, 1, 1, 1, 1, 0)...)
	}
	for _, n := range []int{6002, 6003, 12002, 65536, 1000000} {
		checkUnwritten(t, of(row(n)...), api.ErrAuto)
	}
	checkUnwritten(t, of(), api.ErrAuto)
	checkUnwritten(t, api.Image{}, api.ErrAuto)
	checkUnwritten(t, of([]api.State{}...), api.ErrAuto)
}

func TestWriteOfManyRules(t *testing.T) {
	for _, n := range []int{0, 1, 2, 127, 128, 199, 200} {
		x := ruled(distinct(n)...)
		checkWrite(t, x, slowNumbers(x)...)
		x = ruled(longSides(n)...)
		checkWrite(t, x, slowNumbers(x)...)
	}
	for _, n := range []int{201, 202, 400, 100000} {
		checkUnwritten(t, ruled(distinct(n)...), api.ErrRule)
		checkUnwritten(t, ruled(longSides(n)...), api.ErrRule)
		checkUnwritten(t, ruled(make([]api.Rule, n)...), api.ErrRule)
	}
}

func TestWriteAsTheChapterSays(t *testing.T) {
	for _, x := range someImages() {
		checkWrite(t, x, slowNumbers(x)...)
	}
}

// All automata of up to three states with these arcs, those that may be and those that may not.
func TestWriteOfAllShortAutomata(t *testing.T) {
	var arcs []api.Arc
	for _, n := range []int{0, 97, 98, api.MaxRune} {
		for to := range 4 {
			arcs = append(arcs, api.Arc{Sign: n, To: to})
		}
	}
	var states []api.State
	for _, l := range lists(arcs, 2) {
		states = append(states, api.State{Arcs: l}, api.State{Arcs: l, Final: true})
	}
	for _, l := range append(lists(states, 2), lists(states[:70], 3)...) {
		x := of(l...)
		want, fault := slowWrite(x)
		if got, err := Write(x); err != fault || !bytes.Equal(got, want) {
			t.Fatalf("Write(%v) is %v, %d, want %v, %d", x, got, err, want, fault)
		}
	}
}

// badStates are automata that may not be.
func badStates() [][]api.State {
	last := state(true)
	return [][]api.State{
		nil, {}, row(6002), {state(false, 97, 0)}, {state(false, 97, 1)}, {state(false, 97, -1)}, {state(false, 97, 2), last}, {last, state(false, 97, 1)}, {last, state(false, 97, 0)},
		{state(false, -1, 1), last}, {state(false, 55296, 1), last}, {state(false, 57343, 1), last}, {state(false, 1114112, 1), last}, {state(false, math.MinInt, 1), last}, {state(false, math.MaxInt, 1), last},
		{state(false, 97, math.MaxInt), last}, {state(false, 97, math.MinInt), last}, {state(false, 1<<32+97, 1), last},
		{state(false, 97, 1, 97, 1), last}, {state(false, 98, 1, 97, 1), last}, {state(false, 97, 1, 98, 1, 98, 1), last}, {state(false, 97, 1, 98, 0), last}, {state(false, 97, 1, 98, 1, 0, 1), last},
		{state(true), state(true), state(true, 97, 3)}, {state(true), state(true), state(false, 5, 1)},
	}
}

// badCosts are costs that may not be.
func badCosts() []api.Costs {
	out := []api.Costs{costs(api.Inf, 1, 1, 1), costs(1, api.Inf, 1, 1), costs(1, 1, api.Inf, 1), costs(1, 1, 1, api.Inf), costs(1, api.Inf, 1, 1, from("a", "b", 1))}
	for _, l := range [][]api.Rule{
		{from("b", "a", 1), from("a", "b", 1)}, {from("a", "c", 1), from("a", "b", 1)}, {from("a", "b", 1), from("a", "", 1)}, {from("aa", "b", 1), from("a", "c", 1)},
		{from("a", "b", 1), from("a", "b", 1)}, {from("a", "b", 1), from("a", "b", 2)}, {from("a", "b", 2), from("a", "b", 1)}, {from("", "b", 1), from("a", "b", 2), from("a", "b", 2)},
		{{}}, {from("a", "a", 1)}, {from("ab", "ab", 0)}, {from("a", "b", api.Inf)}, {from("a", "b c", 1)}, {from("a\t", "b", 1)}, {from("a", "\n", 1)}, {from("_", "b", 1)}, {from("a", "_", 1)},
		{from("abcdefghi", "b", 1)}, {from("a", "abcdefghi", 1)}, {{Left: []int{-1}}}, {{Right: []int{55296}}}, {{Left: []int{57343}, Right: []int{97}}}, {{Right: []int{1114112}}}, {{Right: []int{1<<32 + 97}}},
		{{Left: []int{math.MaxInt}}}, {{Left: []int{math.MinInt}}}, {{Left: make([]int, 100000)}}, {from("a", "b", 1), from("a", "c", api.Inf)}, distinct(201), append(distinct(5), distinct(4)...),
	} {
		out = append(out, costs(1, 1, 1, 1, l...))
	}
	return out
}

func TestWriteOfAutomataThatMayNotBe(t *testing.T) {
	for _, l := range badStates() {
		for _, c := range append(someCosts(), badCosts()...) {
			checkUnwritten(t, api.Image{States: l, Costs: c}, api.ErrAuto)
		}
	}
}

func TestWriteOfCostsThatMayNotBe(t *testing.T) {
	for _, c := range badCosts() {
		for _, l := range append(someStates(), row(6001)) {
			checkUnwritten(t, api.Image{States: l, Costs: c}, api.ErrRule)
		}
	}
}

// P15.2: sums

// notImages are bytes that are no image's numbers.
func notImages() [][]byte {
	return [][]byte{nil, {0}, {128}, {255}, {1}, []byte("abc"), {1, 0, 1, 1, 1, 1}, {1, 0, 1, 1, 1, 1, 0, 0}, {0, 1, 1, 1, 1, 0}, make([]byte, 100), bytes.Repeat([]byte{255}, 100)}
}

func TestReadOfFewBytes(t *testing.T) {
	for _, b := range [][]byte{nil, {}, {0}, {0, 0}, {0, 0, 0}, {1, 0, 1}, {255, 255, 255}} {
		checkUnread(t, b, api.ErrCrc)
	}
	// Four bytes 0 are the sum of no bytes, which are no image.
	checkUnread(t, []byte{0, 0, 0, 0}, api.ErrForm)
	checkUnread(t, []byte{0, 0, 0, 1}, api.ErrCrc)
}

// Whether the bytes are an image's or not: a wrong sum is told ahead of all else.
func TestReadOfWrongSums(t *testing.T) {
	l := notImages()
	for _, x := range shortImages() {
		l = append(l, bytesOf(slowNumbers(x)...))
	}
	for _, b := range l {
		checkUnread(t, b, api.ErrCrc)
		whole := sealed(b)
		for at := range whole {
			for bit := range 8 {
				wrong := bytes.Clone(whole)
				wrong[at] ^= 1 << bit
				checkUnread(t, wrong, api.ErrCrc)
			}
			// Of bytes that are all alike some few have a right sum by themselves.
			checkSlow(t, whole[:at])
		}
		for _, c := range []byte{0, 1, 128, 255} {
			checkUnread(t, append(bytes.Clone(whole), c), api.ErrCrc)
			checkUnread(t, slices.Insert(bytes.Clone(whole), 0, c), api.ErrCrc)
		}
		back := bytes.Clone(whole)
		slices.Reverse(back[len(b):])
		if !bytes.Equal(back, whole) {
			checkUnread(t, back, api.ErrCrc)
		}
	}
}

// P15.2: what is read

func TestReadOfTheExample(t *testing.T) {
	checkRead(t, []byte{1, 0, 1, 1, 1, 1, 0, 105, 193, 30, 166}, of(state(false)))
	checkRead(t, sealed([]byte{1, 1, 1, 2, 3, 4, 0}), api.Image{States: []api.State{{Final: true}}, Costs: costs(1, 2, 3, 4)})
	checkRead(t, sealed([]byte{2, 2, 97, 0, 1, 1, 1, 1, 1, 1, 1, 102, 2, 112, 104, 172, 2}), api.Image{States: []api.State{state(false, 97, 1), state(true)}, Costs: costs(1, 1, 1, 1, from("f", "ph", 300))})
	checkRead(t, sealed([]byte{3, 7, 97, 0, 0, 1, 1, 0, 0, 0, 1, 2, 3, 4, 0}), api.Image{States: []api.State{state(true, 97, 1, 98, 2, 100, 1), state(false), state(false)}, Costs: costs(1, 2, 3, 4)})
}

func TestReadOfBytesThatHoldNoImage(t *testing.T) {
	for _, b := range notImages() {
		checkUnread(t, sealed(b), api.ErrForm)
	}
}

// An image's bytes without its last ones, without its first ones, with something behind, and ahead.
func TestReadOfTooFewAndTooMany(t *testing.T) {
	for _, x := range shortImages() {
		b := bytesOf(slowNumbers(x)...)
		for at := range b {
			checkUnread(t, sealed(b[:at]), api.ErrForm)
			if at > 0 {
				checkSlow(t, sealed(b[at:]))
			}
		}
		for _, more := range [][]byte{{0}, {1}, {127}, {128}, {255}, {128, 0}, {0, 0}, b, sealed(nil)} {
			checkUnread(t, sealed(slices.Concat(b, more)), api.ErrForm)
		}
		checkUnread(t, sealed(sealed(b)), api.ErrForm)
		checkRead(t, sealed(b), x)
	}
}

// Each number in one more byte than it needs, in two, and in as many as a number has.
func TestReadOfNumbersInMoreBytesThanTheyNeed(t *testing.T) {
	for _, x := range shortImages() {
		l := slowNumbers(x)
		for at, n := range l {
			for _, more := range []int{1, 2, 9, 10, 20} {
				b := slices.Concat(bytesOf(l[:at]...), longer(n, more), bytesOf(l[at+1:]...))
				checkUnread(t, sealed(b), api.ErrForm)
			}
			// One more than 64 bits hold.
			b := slices.Concat(bytesOf(l[:at]...), []byte{128, 128, 128, 128, 128, 128, 128, 128, 128, 2}, bytesOf(l[at+1:]...))
			checkUnread(t, sealed(b), api.ErrForm)
			// The same bits, and ones that are too high.
			b = slices.Concat(bytesOf(l[:at]...), []byte{byte(n%128 + 128), byte(n/128%128 + 128), byte(n/128/128%128 + 128), 128, 128, 128, 128, 128, 128, 2}, bytesOf(l[at+1:]...))
			checkUnread(t, sealed(b), api.ErrForm)
		}
	}
}

// greatNumbers are those at whose edges something wraps round, or is beyond a limit.
func greatNumbers() []uint64 {
	l := []uint64{200, 201, 6000, 6001, 6002, 55295, 55296, 57343, 57344, 1114110, 1114111, 1114112, 1114113, 2228224, 2228225}
	for bit := range 64 {
		n := uint64(1) << bit
		l = append(l, n-1, n, n+1)
	}
	for n := range uint64(300) {
		l = append(l, 1<<63-n, 1<<63+n, 0-n)
	}
	for _, n := range []uint64{6001, 6002, 55296, 57344, 1114111, 1114112} {
		l = append(l, 0-n, 1-n, 2-n)
	}
	return l
}

// Each number of an image, as another one: the states' and the rules' number among them.
func TestReadOfOtherNumbers(t *testing.T) {
	told := map[api.Errno]int{}
	for _, x := range shortImages() {
		l := slowNumbers(x)
		for at, was := range l {
			for _, n := range append(greatNumbers(), was-2, was-1, was+1, was+2, 2*was) {
				l[at] = n
				told[checkSlow(t, sealed(bytesOf(l...)))]++
			}
			l[at] = was
			less := slices.Delete(slices.Clone(l), at, at+1)
			told[checkSlow(t, sealed(bytesOf(less...)))]++
			for _, n := range []uint64{0, 1, 2, 97, was, math.MaxUint64} {
				told[checkSlow(t, sealed(bytesOf(slices.Insert(slices.Clone(l), at, n)...)))]++
			}
		}
	}
	if told[api.OK] < 1000 || told[api.ErrForm] < 1000 {
		t.Errorf("told: %v", told)
	}
}

// Two numbers that wrap round together: what comes out would be one that may be.
func TestReadOfNumbersThatWrapRound(t *testing.T) {
	for _, sign := range []int{0, 1, 96, 97, 98, 99, 55296, 57343, 1114112} {
		for _, to := range []int{0, 1, 2, 3} {
			back := func(n int) uint64 { return uint64(n) }
			for _, l := range [][]uint64{
				{3, 2, back(sign), back(to - 1), 0, 1, 1, 1, 1, 1, 0},
				{3, 4, 97, 0, back(sign - 98), back(to - 1), 0, 1, 1, 1, 1, 1, 0},
				{3, 6, 97, 0, back(sign - 98), back(to - 1), back(99 - sign), 0, 0, 1, 1, 1, 1, 1, 0},
				{3, 6, 97, 0, 1, 1, back(sign - 100), back(to - 1), 0, 1, 1, 1, 1, 1, 0},
				{3, 0, 2, back(sign), back(to - 2), 1, 1, 1, 1, 1, 0},
			} {
				checkSlow(t, sealed(bytesOf(l...)))
			}
		}
	}
	// Twice how many arcs, with the highest bit: half of it is none.
	for _, n := range []uint64{1 << 63, 1<<63 + 1, 1<<63 + 2, math.MaxUint64, math.MaxUint64 - 1, 1 << 62, 1 << 32, 1<<32 + 2, 1<<33 + 3} {
		checkSlow(t, sealed(bytesOf(1, n, 1, 1, 1, 1, 0)))
		checkSlow(t, sealed(bytesOf(2, n, 97, 0, 1, 1, 1, 1, 1, 0)))
		checkSlow(t, sealed(bytesOf(n, 0, 1, 1, 1, 1, 0)))
		checkSlow(t, sealed(bytesOf(n+1, 0, 1, 1, 1, 1, 0)))
		checkSlow(t, sealed(bytesOf(1, 0, 1, 1, 1, 1, n)))
		checkSlow(t, sealed(bytesOf(1, 0, 1, 1, 1, 1, n+1, 1, 97, 1, 98, 1)))
		checkSlow(t, sealed(bytesOf(1, 0, 1, 1, 1, 1, 1, n+1, 97, 1, 98, 1)))
		checkSlow(t, sealed(bytesOf(1, 0, 1, 1, 1, 1, 1, 1, n+97, 1, 98, 1)))
		checkSlow(t, sealed(bytesOf(1, 0, 1, 1, 1, 1, 1, 1, 97, n+1, 98, 1)))
		checkSlow(t, sealed(bytesOf(1, 0, 1, 1, 1, 1, 1, 1, 97, n, 1)))
		checkSlow(t, sealed(bytesOf(2, 2, n+97, 0, 0, 1, 1, 1, 1, 0)))
		checkSlow(t, sealed(bytesOf(2, 2, 97, n, 0, 1, 1, 1, 1, 0)))
		checkSlow(t, sealed(bytesOf(2, 4, 97, 0, n, 0, 0, 1, 1, 1, 1, 0)))
	}
}

// More is said to be there than there is: what is said is not made ahead.
func TestReadOfFarMoreThanIsThere(t *testing.T) {
	for _, long := range []int{0, 1, 5, 1000, 7000, 1000000} {
		for _, c := range []byte{0, 1, 2, 127, 128, 255} {
			rest := bytes.Repeat([]byte{c}, long)
			for _, n := range []uint64{2, 200, 201, 6001, 6002, 1 << 20, 1 << 31, 1 << 40, 1 << 62, 1 << 63, math.MaxUint64} {
				b := sealed(slices.Concat(bytesOf(n), rest))
				checkUnread(t, b, api.ErrForm)
				if long < 10000 {
					checkSlow(t, b)
					checkSlow(t, sealed(slices.Concat(bytesOf(1, 0, 1, 1, 1, 1, n), rest)))
					checkSlow(t, sealed(slices.Concat(bytesOf(1, 0, 1, 1, 1, 1, 1, n), rest)))
					checkSlow(t, sealed(slices.Concat(bytesOf(2, n), rest)))
				}
			}
		}
	}
}

func TestReadOfAutomataThatMayNotBe(t *testing.T) {
	checkUnreadNumbers(t, 0, 1, 1, 1, 1, 0)
	checkUnreadNumbers(t, 1, 2, 97, 0, 1, 1, 1, 1, 0)
	checkUnreadNumbers(t, 2, 2, 97, 1, 1, 1, 1, 1, 1, 0)
	checkUnreadNumbers(t, 2, 0, 2, 97, 0, 1, 1, 1, 1, 0)
	checkUnreadNumbers(t, 3, 2, 97, 0, 2, 97, 1, 1, 1, 1, 1, 1, 0)
	for _, sign := range []uint64{55296, 55297, 56000, 57342, 57343, 1114112, 1114113, 2000000} {
		checkUnreadNumbers(t, 2, 2, sign, 0, 1, 1, 1, 1, 1, 0)
		checkUnreadNumbers(t, 2, 4, 97, 0, sign-98, 0, 1, 1, 1, 1, 1, 0)
		checkUnreadNumbers(t, 2, 4, sign, 0, 5000000, 0, 1, 1, 1, 1, 1, 0)
	}
	// Signs that rise are told by what they are more, so that they may go from those below the ones that are none to those behind.
	checkRead(t, sealed(bytesOf(2, 4, 97, 0, 57344-98, 0, 1, 1, 1, 1, 1, 0)), of(state(false, 97, 1, 57344, 1), state(true)))
	checkRead(t, sealed(bytesOf(2, 4, 0, 0, 1114110, 0, 1, 1, 1, 1, 1, 0)), of(state(false, 0, 1, 1114111, 1), state(true)))
	checkUnreadNumbers(t, 2, 4, 0, 0, 1114111, 0, 1, 1, 1, 1, 1, 0)
	checkUnreadNumbers(t, 2, 4, 1114111, 0, 0, 0, 1, 1, 1, 1, 1, 0)
	for _, n := range []int{6001, 6002, 6003, 7000} {
		b := sealed(bytesOf(slowNumbers(of(row(n)...))...))
		if n == 6001 {
			checkRead(t, b, of(row(n)...))
			continue
		}
		checkUnread(t, b, api.ErrForm)
	}
}

func TestReadOfCostsThatMayNotBe(t *testing.T) {
	for _, c := range badCosts() {
		if slices.ContainsFunc(c.Rules, func(r api.Rule) bool { return len(r.Left) > 1000 }) {
			continue
		}
		for _, l := range [][]api.State{{state(false)}, {state(false, 97, 1), state(true)}, row(20)} {
			checkUnreadNumbers(t, slowNumbers(api.Image{States: l, Costs: c})...)
		}
	}
	for n := range 4 {
		l := []uint64{1, 0, 1, 1, 1, 1, 0}
		l[2+n] = math.MaxUint64
		checkUnreadNumbers(t, l...)
		l[2+n]--
		x := of(state(false))
		*[]*uint64{&x.Costs.More, &x.Costs.Less, &x.Costs.Other, &x.Costs.Turned}[n] = api.Inf - 1
		checkRead(t, sealed(bytesOf(l...)), x)
	}
	for _, n := range []int{199, 200, 201, 202, 1000} {
		for _, l := range [][]api.Rule{distinct(n), longSides(n)} {
			b := sealed(bytesOf(slowNumbers(ruled(l...))...))
			if n <= 200 {
				checkRead(t, b, ruled(l...))
				continue
			}
			checkUnread(t, b, api.ErrForm)
		}
	}
}

// Each byte of each short image, as each other one, with a right sum.
func TestReadOfEachByte(t *testing.T) {
	for _, x := range shortImages() {
		b := bytesOf(slowNumbers(x)...)
		for at, was := range b {
			for c := range 256 {
				b[at] = byte(c)
				checkSlow(t, sealed(b))
			}
			b[at] = was
			checkSlow(t, sealed(slices.Delete(bytes.Clone(b), at, at+1)))
			for _, c := range []byte{0, 1, 2, 97, 128, 255} {
				checkSlow(t, sealed(slices.Insert(bytes.Clone(b), at, c)))
			}
		}
	}
}

func TestReadOfAllShortTexts(t *testing.T) {
	good := 0
	for _, b := range append(lists([]byte{0, 1, 2}, 10), lists([]byte{0, 1, 2, 3, 128}, 7)...) {
		if checkSlow(t, sealed(b)) == api.OK {
			good++
		}
	}
	for _, b := range lists([]byte{0, 1, 2, 97, 98, 128}, 6) {
		if checkSlow(t, sealed(slices.Concat([]byte{1, 1, 0, 0, 0, 0}, b))) == api.OK {
			good++
		}
	}
	for _, b := range lists([]byte{0, 1, 97, 98}, 7) {
		if checkSlow(t, sealed(slices.Concat([]byte{1, 0, 5, 5, 5, 5, 2}, b))) == api.OK {
			good++
		}
		if checkSlow(t, sealed(slices.Concat([]byte{3, 4}, b, []byte{7, 7, 7, 7, 0}))) == api.OK {
			good++
		}
	}
	if good < 1000 {
		t.Errorf("%d of them are images", good)
	}
}

func TestReadOfAnyBytes(t *testing.T) {
	d := dice(5)
	for range 20000 {
		b := make([]byte, d.below(40))
		for i := range b {
			b[i] = byte(d.next() >> 32)
			if d.below(3) > 0 {
				b[i] %= 4
			}
		}
		checkSlow(t, sealed(b))
		checkSlow(t, sealed(append([]byte{1, 0, 1, 1, 1, 1, byte(d.below(3))}, b...)))
		checkSlow(t, sealed(append(append([]byte{byte(1 + d.below(3))}, b...), 1, 1, 1, 1, 0)))
	}
}

// P15.3

func TestImagesAreReadAsTheyWereWritten(t *testing.T) {
	for _, x := range someImages() {
		b, err := Write(x)
		if err != api.OK {
			t.Fatalf("Write(%v) tells %d", brief(x), err)
		}
		checkRead(t, b, x)
	}
	d := dice(23)
	for range 3000 {
		x := api.Image{States: d.automaton(1+d.below(12), 1+d.below(4), edgeSigns()), Costs: d.costs(d.below(6))}
		b, err := Write(x)
		if err != api.OK {
			t.Fatalf("Write(%v) tells %d", x, err)
		}
		checkRead(t, b, x)
	}
}

// All automata of three states by two signs, with costs of their own: each has bytes that no other one has, and is what those are.
func TestNoTwoImagesHaveTheSameBytes(t *testing.T) {
	var seconds, firsts []api.State
	for _, l := range [][]int{nil, {97, 2}, {98, 2}, {97, 2, 98, 2}} {
		seconds = append(seconds, state(false, l...), state(true, l...))
	}
	for _, l := range [][]int{nil, {97, 1}, {97, 2}, {98, 1}, {98, 2}, {97, 1, 98, 1}, {97, 1, 98, 2}, {97, 2, 98, 1}, {97, 2, 98, 2}, {0, 1}, {0, 2, 1, 2}, {195, 1}} {
		firsts = append(firsts, state(false, l...), state(true, l...))
	}
	var autos [][]api.State
	autos = append(autos, someStates()[:2]...)
	for _, first := range firsts {
		for _, second := range seconds {
			autos = append(autos, []api.State{first, second, state(false)}, []api.State{first, second, state(true)})
		}
	}
	seen := map[string]api.Image{}
	for _, l := range autos {
		for _, c := range someCosts()[:18] {
			x := api.Image{States: l, Costs: c}
			b, err := Write(x)
			if other, has := seen[string(b)]; has || err != api.OK {
				t.Fatalf("Write(%v) is that of %v, %d", brief(x), brief(other), err)
			}
			seen[string(b)] = x
		}
	}
}

// Bytes that are read are written as they were.
func TestImagesAreWrittenAsTheyWereRead(t *testing.T) {
	good := 0
	d := dice(31)
	check := func(b []byte) {
		x, err := Read(b)
		if err != api.OK {
			return
		}
		good++
		if again, err := Write(x); err != api.OK || !bytes.Equal(again, b) {
			t.Fatalf("Write(%v) is %v, %d, and was read of %v", x, again, err, b)
		}
	}
	for _, b := range lists([]byte{0, 1, 2}, 10) {
		check(sealed(b))
	}
	for _, x := range shortImages() {
		l := slowNumbers(x)
		for range 4000 {
			some := slices.Clone(l)
			some[d.below(len(l))] = d.number()
			check(sealed(bytesOf(some...)))
		}
	}
	if good < 1000 {
		t.Errorf("%d of them are images", good)
	}
}

// R1

// Each sign leads to a state, as many as there are; and so does each state to each one behind.
func TestGreatImages(t *testing.T) {
	var every api.State
	for n := range 1114112 {
		if goodSign(n) {
			every.Arcs = append(every.Arcs, api.Arc{Sign: n, To: 1 + n%6000})
		}
	}
	l := row(6001)
	l[0] = every
	for at := 1; at < 6000; at += 50 {
		l[at].Arcs = nil
		for to := at + 1; to < 6001; to++ {
			l[at].Arcs = append(l[at].Arcs, api.Arc{Sign: 2 * to, To: to})
		}
	}
	x := api.Image{States: l, Costs: costs(1, 2, 3, 4, longSides(200)...)}
	checkWrite(t, x, slowNumbers(x)...)
	b, _ := Write(x)
	checkRead(t, b, x)
	checkUnread(t, sealed(b), api.ErrForm)
	checkUnread(t, sealed(b[:len(b)-5]), api.ErrForm)
	every.Arcs[55296].Sign = 55296
	checkUnwritten(t, x, api.ErrAuto)
	every.Arcs[55296].Sign = 57344
	x.Costs.Rules[199].Right = nil
	checkWrite(t, x, slowNumbers(x)...)
	x.Costs.Rules[199].Left = nil
	checkUnwritten(t, x, api.ErrRule)
}

func TestLongBytes(t *testing.T) {
	for c := range 256 {
		checkUnread(t, sealed(bytes.Repeat([]byte{byte(c)}, 20000)), api.ErrForm)
		checkUnread(t, bytes.Repeat([]byte{byte(c), 7}, 20000), api.ErrCrc)
	}
	zeros := make([]byte, 3000000)
	for _, ahead := range [][]byte{bytesOf(uint64(len(zeros))), bytesOf(6002), bytesOf(1, 0, 1, 1, 1, 1, uint64(len(zeros)/3)), bytesOf(1, 0, 1, 1, 1, 1, 1, uint64(len(zeros)))} {
		b := sealed(append(ahead, zeros...))
		// What is beyond a limit is not made ahead of telling so: little more than the bytes without their sum are.
		var was, is runtime.MemStats
		runtime.ReadMemStats(&was)
		checkUnread(t, b, api.ErrForm)
		runtime.ReadMemStats(&is)
		if made := is.TotalAlloc - was.TotalAlloc; made > 4*uint64(len(b)) {
			t.Errorf("%d bytes are made of %d", made, len(b))
		}
	}
	checkUnread(t, sealed(append(bytesOf(1, uint64(len(zeros))), zeros...)), api.ErrForm)
}

// R3

// roomy is an image whose lists lie over each other in one row of arcs, and one of signs, with spare room.
func roomy() (api.Image, []api.State, []api.Rule, []api.Arc, []int) {
	arcs := []api.Arc{{Sign: 97, To: 2}, {Sign: 98, To: 3}, {Sign: 99, To: 3}, {Sign: 100, To: 4}, {Sign: -1, To: -1}}
	states := []api.State{{Arcs: arcs[:2]}, {Final: true, Arcs: arcs[0:3]}, {Arcs: arcs[1:2]}, {Final: true, Arcs: arcs[3:3]}, {Arcs: arcs}, {Final: true}}
	signs := []int{102, 112, 104, 97, 98, 102, 112, 104, -1, 95, 32}
	rules := []api.Rule{
		{Left: signs[4:4], Right: signs[3:5], Cost: 1},
		{Left: signs[3:5], Right: signs[4:4], Cost: 1},
		{Left: signs[0:1], Right: signs[1:3], Cost: 3},
		{Left: signs[5:7], Right: signs[6:8], Cost: 2},
		{Left: signs[0:1], Right: signs[7:9], Cost: 0},
	}
	return api.Image{States: states[:4], Costs: costs(2, 3, 4, 5, rules[:4]...)}, states, rules, arcs, signs
}

func TestWriteChangesNothing(t *testing.T) {
	x, states, rules, arcs, signs := roomy()
	keptStates, keptRules, keptArcs, keptSigns := deepStates(states), deepRules(rules), slices.Clone(arcs), slices.Clone(signs)
	for i := range len(states) + 1 {
		for j := range len(rules) + 1 {
			y := x
			y.States, y.Costs.Rules = states[:i], rules[:j]
			want, fault := slowWrite(y)
			for range 2 {
				if got, err := Write(y); err != fault || !bytes.Equal(got, want) {
					t.Errorf("Write(%v) is %v, %d, want %v, %d", y, got, err, want, fault)
				}
			}
			if !alikeStates(states, keptStates) || !alikeRules(rules, keptRules) || !slices.Equal(arcs, keptArcs) || !slices.Equal(signs, keptSigns) {
				t.Fatalf("Write(%v) changes what it is handed", y)
			}
		}
	}
	if &states[1].Arcs[0] != &arcs[0] || &rules[2].Right[0] != &signs[1] {
		t.Error("the lists are others")
	}
}

// What was written is neither the image's memory nor what is written next.
func TestWriteKeepsNothing(t *testing.T) {
	for _, x := range someImages() {
		want, _ := slowWrite(x)
		own := deep(x)
		first, _ := Write(own)
		second, _ := Write(own)
		for i := range first[:cap(first)] {
			first[:cap(first)][i] = 255
		}
		if !bytes.Equal(second, want) || !alike(own, x) {
			t.Fatalf("what is written of %v hangs together", brief(x))
		}
		for i := range own.States {
			own.States[i].Final = !own.States[i].Final
			clear(own.States[i].Arcs)
		}
		for _, r := range own.Costs.Rules {
			clear(r.Left)
			clear(r.Right)
		}
		if !bytes.Equal(second, want) {
			t.Fatalf("what was written of %v changes with it", brief(x))
		}
	}
}

func TestReadChangesNothing(t *testing.T) {
	l := [][]byte{nil, {1, 2, 3}, sealed(nil), sealed([]byte{1}), {1, 0, 1, 1, 1, 1, 0, 0, 0, 0, 0}}
	for _, x := range someImages() {
		b, _ := slowWrite(x)
		l = append(l, b, sealed(b))
	}
	for _, s := range l {
		whole := slices.Concat([]byte{1, 128, 255, 7, 7}, s, []byte{0, 1, 2, 3, 255, 128, 1, 0, 0, 1})
		kept := bytes.Clone(whole)
		b := whole[5 : 5+len(s)]
		want, fault := slowRead(s)
		for range 2 {
			got, err := Read(b)
			if err != fault || !alike(got, want) {
				t.Fatalf("Read(%v), with more behind, is %v, %d", briefBytes(s), brief(got), err)
			}
			if !bytes.Equal(whole, kept) {
				t.Fatalf("Read(%v) changes it", briefBytes(s))
			}
			for i := range whole {
				whole[i] = 99
			}
			if !alike(got, want) {
				t.Fatalf("what was read of %v changes with it", briefBytes(s))
			}
			copy(whole, kept)
		}
	}
}

// What is read as a whole stays as it is, whatever list of it, or of another answer, is filled to its spare room's end, and has more put behind.
func TestAnswersShareNoMemory(t *testing.T) {
	for _, x := range append(shortImages(), someImages()[:200]...) {
		b, _ := slowWrite(x)
		second, _ := Read(b)
		first, _ := Read(b)
		want := deep(x)
		for i := range first.States {
			fill(&first.States[i].Arcs, api.Arc{Sign: -7, To: -7})
			fill(&want.States[i].Arcs, api.Arc{Sign: -7, To: -7})
			checkFilled(t, first, want, x)
		}
		for i := range first.Costs.Rules {
			for _, side := range [][2]*[]int{{&first.Costs.Rules[i].Left, &want.Costs.Rules[i].Left}, {&first.Costs.Rules[i].Right, &want.Costs.Rules[i].Right}} {
				fill(side[0], -5)
				fill(side[1], -5)
				checkFilled(t, first, want, x)
			}
		}
		fill(&first.States, state(true, 1, 1))
		fill(&first.Costs.Rules, from("a", "b", 1))
		if !alike(second, x) {
			t.Fatalf("two answers of %v share memory", brief(x))
		}
		checkRead(t, b, x)
	}
}

// fill puts one in each place of a list, its spare room's too.
func fill[T any](l *[]T, x T) {
	for i := range (*l)[:cap(*l)] {
		(*l)[:cap(*l)][i] = x
	}
	*l = append((*l)[:len(*l):len(*l)], x)
}

func checkFilled(t *testing.T, got, want, x api.Image) {
	t.Helper()
	if !alike(got, want) {
		t.Fatalf("lists of what is read of %v share memory", brief(x))
	}
}

// R4: what is in spare room, and how much there is, does not matter.
func TestTheSameEachTime(t *testing.T) {
	for _, x := range someImages() {
		want, _ := slowWrite(x)
		y := deep(x)
		y.States = append(make([]api.State, 0, len(x.States)+5), y.States...)
		for i, s := range y.States {
			y.States[i].Arcs = append(make([]api.Arc, 0, len(s.Arcs)+3), s.Arcs...)
		}
		for i, r := range y.Costs.Rules {
			y.Costs.Rules[i].Left = append(make([]int, 0, 20), r.Left...)
			y.Costs.Rules[i].Right = append(make([]int, 0, len(r.Right)), r.Right...)
		}
		for range 3 {
			if got, err := Write(y); err != api.OK || !bytes.Equal(got, want) {
				t.Fatalf("Write(%v) is %v, %d", brief(x), briefBytes(got), err)
			}
			checkRead(t, append(make([]byte, 0, 2*len(want)), want...), x)
		}
	}
}
