package num

import (
	"bytes"
	"math/big"
	"slices"
	"strings"
	"testing"

	"spellwright/api"
)

const inf uint64 = api.Inf

type written struct {
	cost   uint64
	digits string
}

// edges are costs with their digits, put down by hand: both ends, those around each power of ten, and those around powers of two where numbers of fewer bits would end.
func edges() []written {
	return []written{
		{0, "0"}, {1, "1"}, {2, "2"}, {5, "5"}, {8, "8"}, {9, "9"},
		{10, "10"}, {11, "11"}, {19, "19"}, {20, "20"}, {42, "42"}, {90, "90"},
		{99, "99"}, {100, "100"}, {101, "101"}, {109, "109"}, {110, "110"},
		{127, "127"}, {128, "128"}, {255, "255"}, {256, "256"}, {300, "300"},
		{999, "999"}, {1000, "1000"}, {1001, "1001"}, {1010, "1010"},
		{9999, "9999"}, {10000, "10000"}, {10001, "10001"},
		{65535, "65535"}, {65536, "65536"},
		{99999, "99999"}, {100000, "100000"}, {100001, "100001"},
		{999999, "999999"}, {1000000, "1000000"}, {1000001, "1000001"},
		{9999999, "9999999"}, {10000000, "10000000"}, {10000001, "10000001"},
		{99999999, "99999999"}, {100000000, "100000000"}, {100000001, "100000001"},
		{123456789, "123456789"}, {987654321, "987654321"}, {1203040506, "1203040506"},
		{999999999, "999999999"}, {1000000000, "1000000000"}, {1000000001, "1000000001"},
		{2147483647, "2147483647"}, {2147483648, "2147483648"},
		{4294967295, "4294967295"}, {4294967296, "4294967296"},
		{9999999999, "9999999999"}, {10000000000, "10000000000"}, {10000000001, "10000000001"},
		{99999999999, "99999999999"}, {100000000000, "100000000000"}, {100000000001, "100000000001"},
		{999999999999, "999999999999"}, {1000000000000, "1000000000000"}, {1000000000001, "1000000000001"},
		{9999999999999, "9999999999999"}, {10000000000000, "10000000000000"}, {10000000000001, "10000000000001"},
		{99999999999999, "99999999999999"}, {100000000000000, "100000000000000"}, {100000000000001, "100000000000001"},
		{999999999999999, "999999999999999"}, {1000000000000000, "1000000000000000"}, {1000000000000001, "1000000000000001"},
		{9007199254740993, "9007199254740993"},
		{9999999999999999, "9999999999999999"}, {10000000000000000, "10000000000000000"}, {10000000000000001, "10000000000000001"},
		{99999999999999999, "99999999999999999"}, {100000000000000000, "100000000000000000"}, {100000000000000001, "100000000000000001"},
		{999999999999999999, "999999999999999999"}, {1000000000000000000, "1000000000000000000"}, {1000000000000000001, "1000000000000000001"},
		{9223372036854775807, "9223372036854775807"}, {9223372036854775808, "9223372036854775808"},
		{9999999999999999999, "9999999999999999999"}, {10000000000000000000, "10000000000000000000"}, {10000000000000000001, "10000000000000000001"},
		{18446744073709551599, "18446744073709551599"}, {18446744073709551600, "18446744073709551600"},
		{18446744073709551609, "18446744073709551609"}, {18446744073709551610, "18446744073709551610"},
		{inf - 2, "18446744073709551613"}, {inf - 1, "18446744073709551614"},
	}
}

// spread are costs of all lengths, with many unlike digits: each one about a third, or a half, more than the one ahead, and those beside it.
func spread() []uint64 {
	var l []uint64
	for _, part := range []uint64{2, 3, 7} {
		for c := uint64(1); c < inf-1-c/part-2; c += c/part + 1 {
			l = append(l, c-1, c, c+1)
		}
	}
	return l
}

// all are the texts of at most so many of these bytes.
func all(alphabet string, long int) []string {
	out := []string{""}
	from := 0
	for range long {
		end := len(out)
		for _, s := range out[from:end] {
			for i := range len(alphabet) {
				out = append(out, s+alphabet[i:i+1])
			}
		}
		from = end
	}
	return out
}

// slowRead says what the chapter says of digits, by exact numbers: a text is a cost's if it has digits alone, is the digits of the number that they make, and that is below Inf.
func slowRead(s string) (uint64, api.Errno) {
	if s == "" || strings.Trim(s, "0123456789") != "" {
		return 0, api.ErrNum
	}
	n, ok := new(big.Int).SetString(s, 10)
	if !ok || n.String() != s || n.Cmp(new(big.Int).SetUint64(inf)) >= 0 {
		return 0, api.ErrNum
	}
	return n.Uint64(), api.OK
}

func checkWrite(t *testing.T, c uint64, want string) {
	t.Helper()
	if got := Write(c); string(got) != want {
		t.Errorf("Write(%d) is %q, want %q", c, got, want)
	}
}

func checkRead(t *testing.T, s string, want uint64) {
	t.Helper()
	if got, err := Read([]byte(s)); got != want || err != api.OK {
		t.Errorf("Read(%q): %d, %v; want %d", s, got, err, want)
	}
}

// checkWrong looks at the cost, too: beside an error it is 0.
func checkWrong(t *testing.T, s string) {
	t.Helper()
	if got, err := Read([]byte(s)); got != 0 || err != api.ErrNum {
		t.Errorf("Read(%q): %d, %v; want 0, ErrNum", s, got, err)
	}
}

func checkSlowly(t *testing.T, s string) {
	t.Helper()
	want, wrong := slowRead(s)
	if got, err := Read([]byte(s)); got != want || err != wrong {
		t.Errorf("Read(%q): %d, %v; want %d, %v", s, got, err, want, wrong)
	}
}

// P5.1

func TestWrite(t *testing.T) {
	for _, x := range edges() {
		checkWrite(t, x.cost, x.digits)
	}
	checkWrite(t, inf, "18446744073709551615")
}

// The powers of ten are reckoned here, too: 10 to 19 is the last one that is a cost.
func TestWritePowersOfTen(t *testing.T) {
	power := uint64(1)
	for zeros := range 20 {
		tail := strings.Repeat("0", zeros)
		checkWrite(t, power, "1"+tail)
		if zeros > 0 {
			checkWrite(t, power-1, strings.Repeat("9", zeros))
			checkWrite(t, power+1, "1"+tail[1:]+"1")
		}
		if zeros < 19 {
			checkWrite(t, 7*power, "7"+tail)
			power *= 10
		}
	}
}

func TestWriteOfSmallCosts(t *testing.T) {
	digits := "0123456789"
	for c := range 10000 {
		want := ""
		for _, place := range []int{1000, 100, 10, 1} {
			if c >= place || place == 1 {
				want += digits[c/place%10 : c/place%10+1]
			}
		}
		checkWrite(t, uint64(c), want)
	}
}

func TestWriteAsExactNumbers(t *testing.T) {
	for _, c := range spread() {
		checkWrite(t, c, new(big.Int).SetUint64(c).String())
		checkWrite(t, inf-c, new(big.Int).SetUint64(inf-c).String())
	}
}

// What is written has digits alone, and no 0 ahead but in 0 itself; by them it is the cost, the highest one first.
func TestWhatIsWritten(t *testing.T) {
	for _, c := range append(spread(), 0, 9, 10, 99, 100, inf-1, inf) {
		b := Write(c)
		if len(b) == 0 || b[0] == 48 && c != 0 {
			t.Errorf("Write(%d) is %q", c, b)
		}
		sum := new(big.Int)
		for _, x := range b {
			if x < 48 || x > 57 {
				t.Errorf("Write(%d) is %q", c, b)
			}
			sum.Mul(sum, big.NewInt(10)).Add(sum, big.NewInt(int64(x)-48))
		}
		if sum.Cmp(new(big.Int).SetUint64(c)) != 0 {
			t.Errorf("Write(%d) is %q", c, b)
		}
	}
}

// P5.2

func TestRead(t *testing.T) {
	for _, x := range edges() {
		checkRead(t, x.digits, x.cost)
	}
}

func TestReadOfNothing(t *testing.T) {
	// What stands in the spare room is not read.
	for _, b := range [][]byte{nil, {}, []byte("12")[:0]} {
		if c, err := Read(b); c != 0 || err != api.ErrNum {
			t.Errorf("Read of no bytes: %d, %v", c, err)
		}
	}
}

func TestReadOfCutDigits(t *testing.T) {
	b := []byte("18446744073709551615x")
	for k := 1; k <= len(b); k++ {
		want, wrong := slowRead(string(b[:k]))
		if c, err := Read(b[:k]); c != want || err != wrong {
			t.Errorf("Read(%q): %d, %v; want %d, %v", b[:k], c, err, want, wrong)
		}
	}
}

func TestReadOfA0Ahead(t *testing.T) {
	checkRead(t, "0", 0)
	for _, s := range []string{"00", "000", "01", "09", "010", "001", "0x1", "0 ", "0_1", strings.Repeat("0", 19), strings.Repeat("0", 20), strings.Repeat("0", 21), "018446744073709551614", "018446744073709551615"} {
		checkWrong(t, s)
	}
	for _, x := range edges() {
		checkWrong(t, "0"+x.digits)
		checkWrong(t, "00"+x.digits)
	}
}

// From Inf on there is none, of twenty digits and of more; some wrap round to a small cost, or to a great one.
func TestReadOfTooGreat(t *testing.T) {
	for _, s := range []string{
		"18446744073709551615", "18446744073709551616", "18446744073709551617", "18446744073709551619",
		"18446744073709551620", "18446744073709551625", "18446744073709551626", "18446744073709551658", "18446744073709551700",
		"18446744073709551999", "18446744073709552000", "18446744073709600000", "18446744073800000000",
		"18450000000000000000", "18500000000000000000", "19000000000000000000", "20000000000000000000",
		"36893488147419103230", "36893488147419103231", "36893488147419103232", "55340232221128654848", "90000000000000000000", "99999999999999999999",
		"100000000000000000000", "184467440737095516140", "184467440737095516150", "184467440737095516160", "184467440737095516161",
		"340282366920938463463374607431768211455", "340282366920938463463374607431768211456", "340282366920938463463374607431768211457",
		"1" + strings.Repeat("0", 64), "9" + strings.Repeat("9", 99),
	} {
		checkWrong(t, s)
	}
}

// All around Inf, around the tenth of it, and around what wraps round to 0 once more.
func TestReadAroundInf(t *testing.T) {
	around := new(big.Int).SetUint64(inf)
	for _, n := range []*big.Int{
		around,
		new(big.Int).Div(around, big.NewInt(10)),
		new(big.Int).Mul(around, big.NewInt(2)),
		new(big.Int).Mul(around, big.NewInt(10)),
		new(big.Int).Mul(around, around),
	} {
		for d := int64(-1200); d <= 1200; d++ {
			checkSlowly(t, new(big.Int).Add(n, big.NewInt(d)).String())
		}
	}
}

// Each digit of the greatest cost, made each other one.
func TestReadOfTwentyDigits(t *testing.T) {
	for _, s := range []string{"18446744073709551614", "18446744073709551615", "10000000000000000000", "19999999999999999999"} {
		for i := range len(s) {
			for d := range 10 {
				checkSlowly(t, s[:i]+string(rune('0'+d))+s[i+1:])
			}
		}
	}
}

func TestReadOfEachByte(t *testing.T) {
	for x := range 256 {
		one := string([]byte{byte(x)})
		if x >= 48 && x <= 57 {
			checkRead(t, one, uint64(x-48))
		} else {
			checkWrong(t, one)
		}
	}
}

func TestReadOfTwoBytes(t *testing.T) {
	for x := range 256 {
		for y := range 256 {
			checkSlowly(t, string([]byte{byte(x), byte(y)}))
		}
	}
}

// Ahead, between and behind digits no byte may stand but a digit: 47 and 58 are beside them, a sign and a blank are none.
func TestReadOfAWrongByteAmongDigits(t *testing.T) {
	for _, s := range []string{"1", "12", "907", "18446744073709551614"} {
		for x := range 256 {
			if x >= 48 && x <= 57 {
				continue
			}
			one := string([]byte{byte(x)})
			for i := range len(s) + 1 {
				checkWrong(t, s[:i]+one+s[i:])
				if i < len(s) {
					checkWrong(t, s[:i]+one+s[i+1:])
				}
			}
		}
	}
}

func TestReadOfOtherForms(t *testing.T) {
	for _, s := range []string{
		"+1", "-1", "-0", "+0", "1-", "1+", "1-1", "+", "-", "--1", "+18446744073709551614",
		" 1", "1 ", "1 1", " 1 ", "\t1", "1\t", "1\n", "\n1", "1\r", "1\x00", "\x001",
		"/", ":", "1/", "1:", "/1", ":1", "1/1", "1:1",
		"1_000", "1,000", "1.0", "1.", ".1", "1e3", "1E3", "0x10", "0b1", "0o7", "x", "ten", "1a", "a1", "ff", "_",
		// Digits of other writings, and bytes that are no text.
		"\u0661", "\u06f1", "\uff11", "1\uff11", "\u00b2", "1\u00b2", "\u0967", "\xb1", "1\xb1", "\xff", "\xc0\xb1", "1\xc0\xb1",
	} {
		checkWrong(t, s)
	}
}

func TestReadOfAllShortTexts(t *testing.T) {
	for _, s := range all("0159/:- ", 6) {
		checkSlowly(t, s)
	}
}

// P5.3

func TestCostsAreReadAsTheyWereWritten(t *testing.T) {
	for _, c := range spread() {
		for _, x := range []uint64{c, inf - c} {
			if got, err := Read(Write(x)); x < inf && (got != x || err != api.OK) {
				t.Errorf("Read(Write(%d)): %d, %v", x, got, err)
			}
		}
	}
	for c := range uint64(20000) {
		if got, err := Read(Write(c)); got != c || err != api.OK {
			t.Errorf("Read(Write(%d)): %d, %v", c, got, err)
		}
	}
	// Inf is written, but it is none that is read.
	checkWrong(t, string(Write(inf)))
}

func TestWhatIsReadIsWrittenSo(t *testing.T) {
	for _, s := range all("01289/+ ", 6) {
		if c, err := Read([]byte(s)); err == api.OK && string(Write(c)) != s {
			t.Errorf("Read(%q) is %d, of which Write is %q", s, c, Write(c))
		}
	}
}

func TestAGreaterCostHasNoFewerDigits(t *testing.T) {
	l := append(spread(), 0, inf-1, inf)
	for _, x := range edges() {
		l = append(l, x.cost)
	}
	slices.Sort(l)
	for i := 1; i < len(l); i++ {
		less, more := Write(l[i-1]), Write(l[i])
		if len(more) < len(less) {
			t.Errorf("%d has fewer digits than %d: %q, %q", l[i], l[i-1], more, less)
		}
		if len(more) == len(less) && bytes.Compare(less, more) > 0 {
			t.Errorf("%q stands ahead of %q", more, less)
		}
	}
}

// R1: long texts end, whatever they are of.
func TestReadOfLongTexts(t *testing.T) {
	for _, s := range []string{"0", "1", "9", "18446744073709551616", "x", " ", "\xff"} {
		checkLong(t, strings.Repeat(s, 1<<20))
		checkLong(t, strings.Repeat(s, 1<<20)+"1")
		checkLong(t, "1"+strings.Repeat(s, 1<<20))
	}
}

func checkLong(t *testing.T, s string) {
	t.Helper()
	if c, err := Read([]byte(s)); c != 0 || err != api.ErrNum {
		t.Errorf("Read of %q and so on: %d, %v", s[:4], c, err)
	}
}

// R3

// roomy are a text's bytes with spare room behind, and all of that memory.
func roomy(text string) ([]byte, []byte) {
	row := []byte(text + "12 x")
	return row[:len(text)], row
}

func TestWhatIsHandedInIsNotChanged(t *testing.T) {
	for _, s := range []string{"", "0", "907", "18446744073709551614", "18446744073709551615", "01", "1x", "x1", " 1"} {
		b, row := roomy(s)
		kept := bytes.Clone(row)
		want, wrong := slowRead(s)
		if c, err := Read(b); c != want || err != wrong {
			t.Errorf("Read(%q): %d, %v", s, c, err)
		}
		if !bytes.Equal(row, kept) {
			t.Errorf("%q became %q", kept, row)
		}
	}
}

// Changed behind the call, what was handed in changes no later answer; the same memory with other digits is read anew.
func TestWhatIsHandedInIsNotKept(t *testing.T) {
	b, row := roomy("907")
	Read(b)
	copy(row, "412")
	if c, err := Read(b); c != 412 || err != api.OK {
		t.Errorf("Read(%q): %d, %v", b, c, err)
	}
	copy(row, "x12")
	if c, err := Read(b); c != 0 || err != api.ErrNum {
		t.Errorf("Read(%q): %d, %v", b, c, err)
	}
	checkRead(t, "907", 907)
}

// Each answer, changed up to its spare room's end, and with more put behind, changes no other one.
func TestWhatIsAnsweredIsNewMemory(t *testing.T) {
	for _, x := range append(edges(), written{inf, "18446744073709551615"}) {
		first, second := Write(x.cost), Write(x.cost)
		room := first[:cap(first)]
		for i := range room {
			room[i] = '!'
		}
		_ = append(first, "!!"...)
		if string(second) != x.digits {
			t.Errorf("two answers of Write(%d) share memory", x.cost)
		}
		checkWrite(t, x.cost, x.digits)
		if x.cost < inf {
			checkRead(t, x.digits, x.cost)
		}
	}
}
