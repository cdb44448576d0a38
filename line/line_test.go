package line

import (
	"bytes"
	"slices"
	"strings"
	"testing"
)

// list are texts as pieces.
func list(l ...string) [][]byte {
	out := [][]byte{}
	for _, s := range l {
		out = append(out, []byte(s))
	}
	return out
}

func deep(l [][]byte) [][]byte {
	out := [][]byte{}
	for _, p := range l {
		out = append(out, append([]byte{}, p...))
	}
	return out
}

func same(a, b [][]byte) bool {
	return slices.EqualFunc(a, b, bytes.Equal)
}

// all are the texts of at most so many of these bytes.
func all(alphabet string, long int) []string {
	out := []string{""}
	from := 0
	for range long {
		end := len(out)
		for _, s := range out[from:end] {
			for i := range len(alphabet) {
				out = append(out, s+alphabet[i:i+1])
			}
		}
		from = end
	}
	return out
}

// joined are pieces, with the same text behind each.
func joined(l [][]byte, behind string) []byte {
	var out []byte
	for _, p := range l {
		out = append(append(out, p...), behind...)
	}
	return out
}

// slowSplit says what the chapter says, by the first byte 10: what stands ahead of it is a line, and so on with the rest, which is one only if it is not empty.
func slowSplit(s string) [][]byte {
	if s == "" {
		return nil
	}
	ahead, behind, _ := strings.Cut(s, "\n")
	return append(list(ahead), slowSplit(behind)...)
}

// slowFields makes every blank the same, and leaves the empty pieces out.
func slowFields(s string) [][]byte {
	var out [][]byte
	for _, p := range strings.Split(strings.ReplaceAll(s, "\t", " "), " ") {
		if p != "" {
			out = append(out, []byte(p))
		}
	}
	return out
}

func slowBare(s string) bool {
	rest := strings.TrimLeft(s, " \t")
	return rest == "" || strings.HasPrefix(rest, "#")
}

func checkSplit(t *testing.T, s string, want [][]byte) {
	t.Helper()
	if got := Split([]byte(s)); !same(got, want) {
		t.Errorf("Split(%q) is %q, want %q", s, got, want)
	}
}

func checkFields(t *testing.T, s string, want [][]byte) {
	t.Helper()
	if got := Fields([]byte(s)); !same(got, want) {
		t.Errorf("Fields(%q) is %q, want %q", s, got, want)
	}
}

func checkBare(t *testing.T, s string, want bool) {
	t.Helper()
	if got := Bare([]byte(s)); got != want {
		t.Errorf("Bare(%q) is %t", s, got)
	}
}

// P4.1

func TestSplit(t *testing.T) {
	for _, x := range []struct {
		s    string
		want [][]byte
	}{
		{"", nil},
		{"\n", list("")},
		{"\n\n", list("", "")},
		{"\n\n\n", list("", "", "")},
		{"a", list("a")},
		{"a\n", list("a")},
		{"a\n\n", list("a", "")},
		{"\na", list("", "a")},
		{"\na\n", list("", "a")},
		{"\n\na", list("", "", "a")},
		{"a\nb", list("a", "b")},
		{"a\nb\n", list("a", "b")},
		{"a\n\nb", list("a", "", "b")},
		{"a\n\n\nb\n\n", list("a", "", "", "b", "")},
		{"one line\nand another one\n", list("one line", "and another one")},
		// Blanks and # are a line's own, and lines that say nothing are lines.
		{" ", list(" ")},
		{" a\t\n\t\n#b\n # c ", list(" a\t", "\t", "#b", " # c ")},
		{"a\n ", list("a", " ")},
		// No other byte ends a line.
		{"a\r\nb\r", list("a\r", "b\r")},
		{"a\x0bb\x0cc\x00d\x85e\u2028f", list("a\x0bb\x0cc\x00d\x85e\u2028f")},
		{"\xff\xfe\n\x80\n\xc3", list("\xff\xfe", "\x80", "\xc3")},
	} {
		checkSplit(t, x.s, x.want)
	}
}

func TestSplitOfNothing(t *testing.T) {
	for _, b := range [][]byte{nil, {}, []byte("a\n")[:0]} {
		if got := Split(b); len(got) != 0 {
			t.Errorf("Split of no bytes is %q", got)
		}
	}
}

func TestSplitByEachByte(t *testing.T) {
	for c := range 256 {
		one := string([]byte{byte(c)})
		want := list("a" + one + "b")
		if c == 10 {
			want = list("a", "b")
		}
		checkSplit(t, "a"+one+"b", want)
		checkSplit(t, "a"+one+"b\n", want)
		checkSplit(t, one, list(strings.TrimSuffix(one, "\n")))
	}
}

func TestSplitOfAllShortTexts(t *testing.T) {
	for _, s := range all("\na #", 6) {
		checkSplit(t, s, slowSplit(s))
	}
}

// What stands in the spare room is no part of the text.
func TestSpareRoomIsNotRead(t *testing.T) {
	text := []byte("a \n# c")
	for _, x := range []struct {
		to            int
		lines, fields [][]byte
		bare          bool
	}{
		{0, nil, nil, true},
		{1, list("a"), list("a"), false},
		{2, list("a "), list("a"), false},
		{3, list("a "), list("a", "\n"), false},
		{4, list("a ", "#"), list("a", "\n#"), false},
	} {
		b := text[:x.to]
		if lines := Split(b); !same(lines, x.lines) {
			t.Errorf("Split(%q) is %q", b, lines)
		}
		if fields := Fields(b); !same(fields, x.fields) {
			t.Errorf("Fields(%q) is %q", b, fields)
		}
		if bare := Bare(b); bare != x.bare {
			t.Errorf("Bare(%q) is %t", b, bare)
		}
	}
}

// P4.2

func TestFields(t *testing.T) {
	for _, x := range []struct {
		s    string
		want [][]byte
	}{
		{"", nil},
		{" ", nil},
		{"\t", nil},
		{"  ", nil},
		{"\t\t", nil},
		{" \t ", nil},
		{"\t \t", nil},
		{"a", list("a")},
		{" a", list("a")},
		{"\ta", list("a")},
		{"a ", list("a")},
		{"a\t", list("a")},
		{" a ", list("a")},
		{"\ta\t", list("a")},
		{" \t a \t ", list("a")},
		{"a b", list("a", "b")},
		{"a\tb", list("a", "b")},
		{"a  b", list("a", "b")},
		{"a\t\tb", list("a", "b")},
		{"a \t b", list("a", "b")},
		{"REP f ph 2", list("REP", "f", "ph", "2")},
		{"\t BASE\t1  2\t 3 4 \t", list("BASE", "1", "2", "3", "4")},
		{"b a b a", list("b", "a", "b", "a")},
		// A # is a byte as others are.
		{"#", list("#")},
		{"# a", list("#", "a")},
		{" #a b#c #", list("#a", "b#c", "#")},
		// No other byte is a blank, a byte 10 neither.
		{"a\nb", list("a\nb")},
		{"\n", list("\n")},
		{"a\r", list("a\r")},
		{" \r \n \x0b \x0c \x00", list("\r", "\n", "\x0b", "\x0c", "\x00")},
		{"a\u00a0b\u2003c\u3000d", list("a\u00a0b\u2003c\u3000d")},
		{"\xff \x80\t\xc3", list("\xff", "\x80", "\xc3")},
	} {
		checkFields(t, x.s, x.want)
	}
}

func TestBare(t *testing.T) {
	for _, s := range []string{
		"", " ", "\t", "  ", "\t\t", " \t ", "\t \t",
		"#", "##", "#a", "# a", "#\n", "#\xff",
		" #", "\t#", " \t #", "\t #a", "  # a b", " #a b", " # #",
	} {
		checkBare(t, s, true)
	}
	for _, s := range []string{
		"a", " a", "\ta", "a ", "a b", " \t a \t ",
		"a#", "a #", "a # b", "a\t#b", " a #", "a#b", "\ta# #", "0", "_",
		"\"", "$", "\x00", "\xa3", "\uff03",
		"\n", "\n#", " \n#", "\r", "\r#", "\x0b#", "\x00#", "\u00a0#",
	} {
		checkBare(t, s, false)
	}
}

func TestNothingHasNoFieldsAndIsBare(t *testing.T) {
	for _, l := range [][]byte{nil, {}, []byte("a b")[:0]} {
		if got := Fields(l); len(got) != 0 {
			t.Errorf("Fields of no bytes is %q", got)
		}
		if !Bare(l) {
			t.Error("no bytes are not bare")
		}
	}
}

func TestFieldsByEachByte(t *testing.T) {
	for c := range 256 {
		one := string([]byte{byte(c)})
		blank := c == 32 || c == 9
		want, alone := list("a"+one+"b"), list(one)
		if blank {
			want, alone = list("a", "b"), nil
		}
		checkFields(t, "a"+one+"b", want)
		checkFields(t, one, alone)
		checkFields(t, " "+one+"\t", alone)
		bare := blank || c == 35
		checkBare(t, one, bare)
		checkBare(t, "\t"+one+" ", bare)
		checkBare(t, one+"a", c == 35)
		checkBare(t, one+"#", bare)
		checkBare(t, "a"+one+"#", false)
	}
}

func TestFieldsOfAllShortLines(t *testing.T) {
	for _, s := range all(" \ta#\n", 6) {
		checkFields(t, s, slowFields(s))
		checkBare(t, s, slowBare(s))
		got := Fields([]byte(s))
		if bare := len(got) == 0 || got[0][0] == 35; Bare([]byte(s)) != bare {
			t.Errorf("Bare(%q) is not what its fields %q tell", s, got)
		}
	}
}

// P4.3

func TestLinesAreSplitIntoTheseLines(t *testing.T) {
	some := list("", "a", "ab", " ", "#", "\t\r", "\xff\x00")
	lists := [][][]byte{{}}
	for from, round := 0, 0; round < 4; round++ {
		end := len(lists)
		for _, l := range lists[from:end] {
			for _, w := range some {
				lists = append(lists, append(slices.Clip(l), w))
			}
		}
		from = end
	}
	for _, l := range lists {
		b := joined(l, "\n")
		if got := Split(b); !same(got, l) {
			t.Fatalf("Split(%q) is %q, want %q", b, got, l)
		}
		// The last end may lack, where there is something ahead of it.
		if n := len(l); n > 0 && len(l[n-1]) > 0 {
			if got := Split(b[:len(b)-1]); !same(got, l) {
				t.Fatalf("Split(%q) is %q, want %q", b[:len(b)-1], got, l)
			}
		}
	}
}

func TestFieldsWithBlanksAreTheseFields(t *testing.T) {
	lists := [][][]byte{
		{},
		list("a"),
		list("#"),
		list("a", "b"),
		list("a", "a", "a"),
		list("abc", "\n", "#d", "\xff\x00", "e#"),
		list("REP", "f", "ph", "2"),
	}
	blanks := all(" \t", 3)
	for _, l := range lists {
		for _, between := range blanks[1:] {
			for _, ahead := range blanks {
				for _, behind := range blanks {
					s := ahead + string(bytes.Join(l, []byte(between))) + behind
					checkFields(t, s, l)
				}
			}
		}
	}
}

func TestLinesAndFieldsTogether(t *testing.T) {
	text := "\n# words\n b\ta \n\n\t#\nab # no\n"
	want := [][][]byte{nil, list("#", "words"), list("b", "a"), nil, list("#"), list("ab", "#", "no")}
	bare := []bool{true, true, false, true, true, false}
	lines := Split([]byte(text))
	if len(lines) != len(want) {
		t.Fatalf("Split(%q) is %q", text, lines)
	}
	for i, l := range lines {
		checkFields(t, string(l), want[i])
		checkBare(t, string(l), bare[i])
	}
}

// R1: long texts, of ends alone, of blanks alone, and without any.
func TestLongTexts(t *testing.T) {
	const n = 1 << 20
	if got := Split(bytes.Repeat([]byte{10}, n)); len(got) != n || len(got[0]) != 0 || len(got[n-1]) != 0 {
		t.Errorf("%d lines of %d ends", len(got), n)
	}
	long := bytes.Repeat([]byte("ab#"), n)
	for _, got := range [][][]byte{Split(long), Fields(long)} {
		if !same(got, [][]byte{long}) {
			t.Errorf("%d pieces of a text that nothing parts", len(got))
		}
	}
	blanks := bytes.Repeat([]byte(" \t"), n)
	if got := Fields(blanks); len(got) != 0 || !Bare(blanks) {
		t.Errorf("%d fields of blanks", len(got))
	}
	if Bare(append(blanks, 'a')) || !Bare(append(blanks, '#')) {
		t.Error("a first field far behind")
	}
	if got := Fields(bytes.Repeat([]byte("a "), n)); len(got) != n || string(got[0]) != "a" || string(got[n-1]) != "a" {
		t.Errorf("%d fields of %d", len(got), n)
	}
}

// R3

type parting struct {
	name  string
	parts func([]byte) [][]byte
	text  string
	want  [][]byte
}

// partings are both calls, each with a text that has pieces side by side, and empty ones.
func partings() []parting {
	return []parting{
		{"Split", Split, "ab\n\nc\n d\t\n#", list("ab", "", "c", " d\t", "#")},
		{"Split", Split, "ab\n\nc\n\n", list("ab", "", "c", "")},
		{"Split", Split, "abc", list("abc")},
		{"Fields", Fields, " ab\tc  #d \te\n", list("ab", "c", "#d", "e\n")},
		{"Fields", Fields, "abc", list("abc")},
	}
}

// roomy are a text's bytes with spare room behind, and all of that memory.
func roomy(text string) ([]byte, []byte) {
	row := []byte(text + " x\ny #\n")
	return row[:len(text)], row
}

func TestWhatIsHandedInIsNotChanged(t *testing.T) {
	for _, p := range partings() {
		b, row := roomy(p.text)
		kept := bytes.Clone(row)
		p.parts(b)
		Bare(b)
		if !bytes.Equal(row, kept) {
			t.Errorf("%s: %q became %q", p.name, kept, row)
		}
	}
}

// Changed behind the call, what was handed in changes no answer.
func TestWhatIsHandedInIsNotKept(t *testing.T) {
	for _, p := range partings() {
		b, row := roomy(p.text)
		got := p.parts(b)
		for i := range row {
			row[i] = '!'
		}
		if !same(got, p.want) {
			t.Errorf("%s(%q) became %q", p.name, p.text, got)
		}
		if again := p.parts([]byte(p.text)); !same(again, p.want) {
			t.Errorf("%s(%q) is %q later on", p.name, p.text, again)
		}
	}
}

// Each piece, changed up to its spare room's end, and with more put behind, changes nothing else.
func TestAnswersShareNoMemory(t *testing.T) {
	for _, p := range partings() {
		b, row := roomy(p.text)
		kept := bytes.Clone(row)
		first, second := p.parts(b), p.parts(b)
		if !same(first, p.want) {
			t.Fatalf("%s(%q) is %q", p.name, p.text, first)
		}
		for i := range first {
			rest := deep(first)
			piece := first[i][:cap(first[i])]
			for j := range piece {
				piece[j] = '!'
			}
			first[i] = append(first[i], "!!"...)
			for k := range first {
				if k != i && !bytes.Equal(first[k], rest[k]) {
					t.Errorf("%s: piece %d changed with piece %d", p.name, k, i)
				}
			}
		}
		clear(first[:cap(first)])
		if !bytes.Equal(row, kept) {
			t.Errorf("%s: what was handed in shares memory with an answer", p.name)
		}
		if !same(second, p.want) || !same(p.parts(b), p.want) {
			t.Errorf("%s: two answers share memory", p.name)
		}
	}
}
