package varint

import (
	"bytes"
	"encoding/binary"
	"math/big"
	"slices"
	"testing"

	"spellwright/api"
)

const greatest = 1<<64 - 1

type written struct {
	n   uint64
	own []byte
}

// edges are numbers with their bytes, put down by hand: both ends, those on both sides of each power of 128, and some between.
func edges() []written {
	high := func(many int, c byte, last ...byte) []byte {
		return append(bytes.Repeat([]byte{c}, many), last...)
	}
	return []written{
		{0, []byte{0}}, {1, []byte{1}}, {2, []byte{2}}, {10, []byte{10}}, {63, []byte{63}}, {64, []byte{64}}, {126, []byte{126}}, {127, []byte{127}},
		{128, []byte{128, 1}}, {129, []byte{129, 1}}, {130, []byte{130, 1}}, {255, []byte{255, 1}}, {256, []byte{128, 2}}, {257, []byte{129, 2}}, {300, []byte{172, 2}},
		{1000, []byte{232, 7}}, {8192, []byte{128, 64}}, {16382, []byte{254, 127}}, {16383, []byte{255, 127}},
		{16384, []byte{128, 128, 1}}, {16385, []byte{129, 128, 1}}, {16512, []byte{128, 129, 1}}, {65535, []byte{255, 255, 3}}, {65536, []byte{128, 128, 4}}, {1114111, []byte{255, 255, 67}}, {2097151, []byte{255, 255, 127}},
		{2097152, []byte{128, 128, 128, 1}}, {2097153, []byte{129, 128, 128, 1}}, {1<<28 - 1, []byte{255, 255, 255, 127}},
		{1 << 28, []byte{128, 128, 128, 128, 1}}, {1<<28 + 1, []byte{129, 128, 128, 128, 1}}, {1<<31 - 1, []byte{255, 255, 255, 255, 7}}, {1 << 31, []byte{128, 128, 128, 128, 8}},
		{1<<32 - 1, []byte{255, 255, 255, 255, 15}}, {1 << 32, []byte{128, 128, 128, 128, 16}}, {1<<32 + 1, []byte{129, 128, 128, 128, 16}}, {1<<35 - 1, high(4, 255, 127)},
		{1 << 35, high(5, 128, 1)}, {1<<35 + 1, []byte{129, 128, 128, 128, 128, 1}}, {1<<42 - 1, high(5, 255, 127)},
		{1 << 42, high(6, 128, 1)}, {1<<49 - 1, high(6, 255, 127)},
		{1 << 49, high(7, 128, 1)}, {1<<56 - 1, high(7, 255, 127)},
		{1 << 56, high(8, 128, 1)}, {1<<62 - 1, high(8, 255, 63)}, {1 << 62, high(8, 128, 64)}, {1<<63 - 1, high(8, 255, 127)},
		{1 << 63, high(9, 128, 1)}, {1<<63 + 1, append([]byte{129}, high(8, 128, 1)...)}, {greatest - 1, append([]byte{254}, high(8, 255, 1)...)}, {greatest, high(9, 255, 1)},
		{0x0123456789abcdef, []byte{239, 155, 175, 205, 248, 172, 209, 145, 1}},
	}
}

// spread are numbers of all lengths: around each power of two, and all those that are reckoned from each one by a third, or a seventh, more.
func spread() []uint64 {
	var l []uint64
	for shift := range 64 {
		for by := range uint64(300) {
			l = append(l, 1<<shift+by, 1<<shift-by, ^(1<<shift)+by)
		}
	}
	for _, part := range []uint64{3, 7} {
		for n := uint64(1); n < greatest/2; n += n/part + 1 {
			l = append(l, n, ^n)
		}
	}
	return l
}

// dice are numbers that look like any, the same each time.
type dice uint64

func (d *dice) next() uint64 {
	*d = *d*6364136223846793005 + 1442695040888963407
	n := uint64(*d)
	return (n ^ n>>29) * 0xbf58476d1ce4e5b9
}

// texts are the texts of at most so many of these bytes.
func texts(of []byte, long int) [][]byte {
	out := [][]byte{{}}
	begin := 0
	for range long {
		end := len(out)
		for _, b := range out[begin:end] {
			for _, c := range of {
				out = append(out, append(bytes.Clone(b), c))
			}
		}
		begin = end
	}
	return out
}

func everyByte() []byte {
	var out []byte
	for c := range 256 {
		out = append(out, byte(c))
	}
	return out
}

// slowPut says what the chapter says of a number's bytes, by exact numbers: seven bits each, the lowest ones first, as few bytes as hold it, but one at least; each but the last one with 128 more.
func slowPut(n *big.Int) []byte {
	var out []byte
	n = new(big.Int).Set(n)
	base := big.NewInt(128)
	for {
		low := new(big.Int)
		n.DivMod(n, base, low)
		if n.Sign() == 0 {
			return append(out, byte(low.Int64()))
		}
		out = append(out, byte(low.Int64()+128))
	}
}

// slowTake does the same of what bytes begin with: of each of their beginnings it is asked which number, however great, it would be by its bits, and whether that is a number and has these bytes. Beside the number it tells how many these are; 0, if there is none.
func slowTake(b []byte) (uint64, int) {
	bits := new(big.Int)
	for i, c := range b {
		part := big.NewInt(int64(c) % 128)
		bits.Add(bits, part.Lsh(part, uint(7*i)))
		if bits.IsUint64() && bytes.Equal(slowPut(bits), b[:i+1]) {
			return bits.Uint64(), i + 1
		}
		if i > 20 {
			break
		}
	}
	return 0, 0
}

func checkPut(t *testing.T, b []byte, n uint64, own []byte) {
	t.Helper()
	if got, want := Put(b, n), append(bytes.Clone(b), own...); !bytes.Equal(got, want) {
		t.Errorf("Put(%v, %d) is %v, want %v", b, n, got, want)
	}
}

func checkSize(t *testing.T, n uint64, want int) {
	t.Helper()
	if got := Size(n); got != want {
		t.Errorf("Size(%d) is %d, want %d", n, got, want)
	}
}

func checkTake(t *testing.T, b []byte, n uint64, rest []byte) {
	t.Helper()
	if got, behind, err := Take(b); got != n || !bytes.Equal(behind, rest) || err != api.OK {
		t.Errorf("Take(%v) is %d, %v, %d, want %d, %v, OK", b, got, behind, err, n, rest)
	}
}

// checkWrong looks at the other answers, too: beside an error they are 0, and empty.
func checkWrong(t *testing.T, b []byte) {
	t.Helper()
	if got, behind, err := Take(b); got != 0 || len(behind) != 0 || err != api.ErrVar {
		t.Errorf("Take(%v) is %d, %v, %d, want 0, nothing, ErrVar", b, got, behind, err)
	}
}

func checkSlowly(t *testing.T, b []byte) {
	t.Helper()
	n, size := slowTake(b)
	if size == 0 {
		checkWrong(t, b)
	} else {
		checkTake(t, b, n, b[size:])
	}
}

// checkNumber holds all three calls against a number's bytes.
func checkNumber(t *testing.T, n uint64, own []byte) {
	t.Helper()
	checkPut(t, nil, n, own)
	checkSize(t, n, len(own))
	checkTake(t, own, n, nil)
}

// P13.1

func TestPutOfSomeNumbers(t *testing.T) {
	for _, x := range edges() {
		checkPut(t, nil, x.n, x.own)
		checkPut(t, []byte{}, x.n, x.own)
	}
}

func TestPutBehindBytes(t *testing.T) {
	ahead := [][]byte{{0}, {1}, {127}, {128}, {255}, {0, 0}, {128, 0}, {255, 255}, []byte("ab"), bytes.Repeat([]byte{255}, 9), bytes.Repeat([]byte{128}, 30), everyByte()}
	for _, x := range edges() {
		ahead = append(ahead, x.own)
	}
	for _, b := range ahead {
		for _, x := range edges() {
			checkPut(t, b, x.n, x.own)
		}
	}
	for _, b := range texts([]byte{0, 1, 127, 128, 129, 255}, 3) {
		for _, x := range edges() {
			checkPut(t, b, x.n, x.own)
		}
	}
}

func TestPutBehindMany(t *testing.T) {
	for _, long := range []int{63, 64, 1000, 1<<16 - 1, 1 << 16, 1 << 20} {
		b := bytes.Repeat([]byte{200}, long)
		for _, x := range edges() {
			if got := Put(b, x.n); len(got) != long+len(x.own) || !bytes.Equal(got[:long], b) || !bytes.Equal(got[long:], x.own) {
				t.Errorf("Put of %d behind %d bytes", x.n, long)
			}
		}
	}
}

// Spare room behind the bytes is none of them, whatever stands there and however much of it there is.
func TestPutWithSpareRoom(t *testing.T) {
	for _, x := range edges() {
		for _, long := range []int{0, 1, 2, 5} {
			for room := range 15 {
				row := slices.Repeat([]byte{77}, long+room)
				b := row[:long]
				checkPut(t, b, x.n, x.own)
				if !bytes.Equal(row, slices.Repeat([]byte{77}, long+room)) {
					t.Errorf("Put of %d behind %d bytes with room for %d changed %v", x.n, long, room, row)
				}
			}
		}
	}
}

func TestSizeOfSomeNumbers(t *testing.T) {
	for _, x := range edges() {
		checkSize(t, x.n, len(x.own))
	}
}

// Each power of 128 is the first number of one more byte.
func TestSizeAtPowers(t *testing.T) {
	power := uint64(1)
	for size := 1; size < 10; size++ {
		power *= 128
		for by := range uint64(100) {
			checkSize(t, power-1-by, size)
			checkSize(t, power+by, size+1)
		}
	}
	checkSize(t, 0, 1)
	checkSize(t, 1, 1)
	checkSize(t, greatest, 10)
}

func TestPowersOfTwo(t *testing.T) {
	for shift := range 64 {
		own := append(bytes.Repeat([]byte{128}, shift/7), 1<<(shift%7))
		checkNumber(t, 1<<shift, own)
	}
}

// All numbers of up to two bytes, and of three the first ones.
func TestAllSmallNumbers(t *testing.T) {
	for n := range uint64(128) {
		checkNumber(t, n, []byte{byte(n)})
	}
	for n := uint64(128); n < 16384; n++ {
		checkNumber(t, n, []byte{byte(n%128 + 128), byte(n / 128)})
	}
	for n := uint64(16384); n < 1<<18; n++ {
		checkNumber(t, n, []byte{byte(n%128 + 128), byte(n/128%128 + 128), byte(n / 16384)})
	}
}

func TestNumbersAgainstExactOnes(t *testing.T) {
	for _, n := range spread() {
		checkNumber(t, n, slowPut(new(big.Int).SetUint64(n)))
	}
}

// The library has the same form of numbers.
func TestNumbersAgainstTheLibrary(t *testing.T) {
	d := dice(1)
	for i := range 300000 {
		n := d.next() >> (i % 64)
		checkNumber(t, n, binary.AppendUvarint(nil, n))
	}
}

// Fewer bytes do not hold a number: cut by its last one, its bytes are of fewer bits than it has.
func TestBytesAreAsFewAsHoldIt(t *testing.T) {
	for _, n := range spread() {
		own := Put(nil, n)
		for i, c := range own {
			if last := i == len(own)-1; (c < 128) != last {
				t.Fatalf("Put(nil, %d) is %v: the one at %d", n, own, i)
			}
		}
		if len(own) != Size(n) || len(own) > 1 && n>>(7*(len(own)-1)) == 0 || len(own) > 1 && own[len(own)-1] == 0 {
			t.Fatalf("Put(nil, %d) is %v: too many", n, own)
		}
	}
}

// P13.2

func TestTakeOfSomeNumbers(t *testing.T) {
	for _, x := range edges() {
		checkTake(t, x.own, x.n, nil)
	}
}

func TestTakeOfNoBytes(t *testing.T) {
	checkWrong(t, nil)
	checkWrong(t, []byte{})
	checkWrong(t, []byte{1, 2}[:0])
	checkWrong(t, []byte{1, 2}[1:1])
}

func TestTakeOfBytesWithSomeBehind(t *testing.T) {
	for _, x := range edges() {
		for _, tail := range [][]byte{{0}, {1}, {127}, {128}, {255}, {0, 0}, {1, 0}, {128, 0}, {128, 1}, {255, 255}, {200, 0, 3}, []byte("ab"), bytes.Repeat([]byte{255}, 20), make([]byte, 20), everyByte()} {
			checkTake(t, slices.Concat(x.own, tail), x.n, tail)
		}
		for _, y := range edges() {
			checkTake(t, slices.Concat(x.own, y.own), x.n, y.own)
		}
	}
}

// What is behind is told, all of it, when it is long, too.
func TestTakeOfBytesWithManyBehind(t *testing.T) {
	tail := bytes.Repeat(everyByte(), 1<<12)
	for _, x := range edges() {
		if got, behind, err := Take(slices.Concat(x.own, tail)); got != x.n || err != api.OK || !bytes.Equal(behind, tail) {
			t.Errorf("Take of %v and %d behind is %d, %d behind, %d", x.own, len(tail), got, len(behind), err)
		}
	}
}

// Bytes that end ahead of a number's last one; what stands in spare room behind them is none of them.
func TestTakeOfBytesThatEndTooSoon(t *testing.T) {
	for _, x := range edges() {
		for i := range x.own {
			checkWrong(t, bytes.Clone(x.own[:i]))
			checkWrong(t, x.own[:i])
		}
	}
	for c := 128; c < 256; c++ {
		for long := 1; long < 30; long++ {
			checkWrong(t, bytes.Repeat([]byte{byte(c)}, long))
		}
	}
}

// A number's bytes with some more that add nothing to it are not its own, nor another's.
func TestTakeOfMoreBytesThanNeeded(t *testing.T) {
	for _, b := range [][]byte{{128, 0}, {129, 0}, {255, 0}, {128, 128, 0}, {255, 128, 0}, {128, 129, 0}, {172, 130, 0}, {128, 0, 1}, {128, 0, 128, 1}, {255, 128, 0, 5}, {129, 128, 128, 128, 0}} {
		checkWrong(t, b)
	}
	for _, x := range edges() {
		last := len(x.own) - 1
		for extra := range 15 {
			b := bytes.Clone(x.own)
			b[last] += 128
			b = append(append(b, bytes.Repeat([]byte{128}, extra)...), 0)
			checkWrong(t, b)
			checkWrong(t, append(b, 0))
			checkWrong(t, append(b, 1))
			checkWrong(t, append(b, 128, 1))
		}
	}
}

// Ten bytes hold six bits more than there are: of the last one just 1 is a number's.
func TestTakeOfTenBytes(t *testing.T) {
	d := dice(2)
	heads := [][]byte{bytes.Repeat([]byte{128}, 9), bytes.Repeat([]byte{255}, 9), {129, 128, 128, 128, 128, 128, 128, 128, 128}, {128, 128, 128, 128, 128, 128, 128, 128, 192}, {255, 128, 255, 128, 255, 128, 255, 128, 255}}
	for range 100 {
		n := d.next()
		head := binary.AppendUvarint(nil, n|1<<63)[:9]
		heads = append(heads, head)
	}
	for _, head := range heads {
		low := uint64(0)
		for i, c := range head {
			low += uint64(c-128) << (7 * i)
		}
		for c := range 256 {
			for _, tail := range [][]byte{{}, {0}, {1}, {1, 7}, {127}, {128, 1}, {255, 255, 255}} {
				b := slices.Concat(head, []byte{byte(c)}, tail)
				if c == 1 {
					checkTake(t, b, low+1<<63, tail)
				} else {
					checkWrong(t, b)
				}
			}
		}
	}
}

// Of nine bytes, or fewer, each last one but 0 is a number's.
func TestTakeOfNineBytesAndFewer(t *testing.T) {
	for many := range 9 {
		for _, c := range []byte{128, 129, 170, 254, 255} {
			head := bytes.Repeat([]byte{c}, many)
			low := uint64(0)
			for i := range many {
				low += uint64(c-128) << (7 * i)
			}
			for last := range 128 {
				b := append(bytes.Clone(head), byte(last))
				if last == 0 && many > 0 {
					checkWrong(t, b)
				} else {
					checkTake(t, b, low+uint64(last)<<(7*many), nil)
				}
			}
		}
	}
}

func TestTakeOfElevenBytesAndMore(t *testing.T) {
	for _, many := range []int{10, 11, 12, 15, 18, 19, 20, 27, 36, 37, 63, 64, 65, 73, 74, 127, 128, 255, 256, 257, 1000, 1 << 16} {
		for _, c := range []byte{128, 129, 255} {
			for _, last := range []byte{0, 1, 2, 64, 127, 128, 255} {
				b := append(bytes.Repeat([]byte{c}, many), last)
				if got, behind, err := Take(b); got != 0 || len(behind) != 0 || err != api.ErrVar {
					t.Errorf("Take of %d of %d, and %d, is %d, %d behind, %d", many, c, last, got, len(behind), err)
				}
			}
		}
	}
	// Ten bytes with 1 as the last one's bits, as a number has, but with another byte behind.
	checkWrong(t, append(append(bytes.Repeat([]byte{255}, 9), 129), 0))
	checkWrong(t, append(append(bytes.Repeat([]byte{128}, 9), 129), 1))
	// R1: a long row without an end.
	long := bytes.Repeat([]byte{255}, 1<<24)
	if got, behind, err := Take(long); got != 0 || len(behind) != 0 || err != api.ErrVar {
		t.Errorf("Take of a long row is %d, %d behind, %d", got, len(behind), err)
	}
}

// Whatever bytes there are: all of up to two, and all of up to six of those at the chapter's edges.
func TestTakeOfAllShortTexts(t *testing.T) {
	for _, b := range texts(everyByte(), 2) {
		checkSlowly(t, b)
	}
	for _, b := range texts([]byte{0, 1, 2, 127, 128, 129, 255}, 6) {
		checkSlowly(t, b)
	}
	for _, b := range texts([]byte{0, 1, 128, 255}, 4) {
		checkSlowly(t, slices.Concat(bytes.Repeat([]byte{255}, 7), b))
		checkSlowly(t, slices.Concat(bytes.Repeat([]byte{128}, 8), b))
	}
}

// Each byte in each place of numbers' bytes, with another number behind.
func TestTakeOfChangedBytes(t *testing.T) {
	for _, x := range edges() {
		for i := range x.own {
			for c := range 256 {
				b := append(bytes.Clone(x.own), 129, 3)
				b[i] = byte(c)
				checkSlowly(t, b)
			}
		}
	}
}

// P13.3

func TestNumbersAreTakenAsTheyWerePut(t *testing.T) {
	tails := [][]byte{{}, {0}, {1}, {128}, {255}, {129, 0}, {255, 255, 255, 255, 255, 255, 255, 255, 255, 255}}
	for _, n := range spread() {
		own := Put(nil, n)
		for _, tail := range tails {
			checkTake(t, append(bytes.Clone(own), tail...), n, tail)
		}
	}
}

func TestNumbersOneBehindTheOther(t *testing.T) {
	d := dice(3)
	for many := range 60 {
		var l []uint64
		var b []byte
		size := 0
		for range many {
			n := d.next() >> (d.next() % 64)
			l = append(l, n)
			b = Put(b, n)
			size += Size(n)
		}
		if len(b) != size {
			t.Fatalf("%v: %d bytes, want %d", l, len(b), size)
		}
		for i, n := range l {
			got, rest, err := Take(b)
			if got != n || err != api.OK || len(rest) != len(b)-Size(n) {
				t.Fatalf("%v, number %d: %d, %v, %d", l, i, got, rest, err)
			}
			b = rest
		}
		checkWrong(t, b)
	}
}

func TestNumbersOfEdgesOneBehindTheOther(t *testing.T) {
	for _, x := range edges() {
		for _, y := range edges() {
			b := Put(Put(nil, x.n), y.n)
			checkTake(t, b, x.n, y.own)
			_, rest, _ := Take(b)
			checkTake(t, rest, y.n, nil)
		}
	}
}

// No number's bytes begin with another one's: of any two of them, and of what each begins with.
func TestNoNumberBeginsWithAnother(t *testing.T) {
	for _, x := range edges() {
		for _, y := range edges() {
			if x.n != y.n && bytes.HasPrefix(Put(nil, x.n), Put(nil, y.n)) {
				t.Errorf("%d begins with %d", x.n, y.n)
			}
		}
	}
	for _, n := range spread() {
		own := Put(nil, n)
		for i := range own {
			checkWrong(t, own[:i])
		}
	}
	var all [][]byte
	for n := range uint64(20000) {
		all = append(all, Put(nil, n))
	}
	for _, n := range spread() {
		all = append(all, Put(nil, n))
	}
	slices.SortFunc(all, bytes.Compare)
	// In order, what begins with another one stands behind it, with such ones alone between.
	for i := 1; i < len(all); i++ {
		if !bytes.Equal(all[i-1], all[i]) && bytes.HasPrefix(all[i], all[i-1]) {
			t.Errorf("%v begins with %v", all[i], all[i-1])
		}
	}
}

// Bytes that are taken are put so: no bytes but a number's own are it.
func TestWhatIsTakenIsPutSo(t *testing.T) {
	for _, b := range texts([]byte{0, 1, 64, 127, 128, 129, 192, 255}, 5) {
		n, rest, err := Take(b)
		if err != api.OK {
			continue
		}
		if back := append(Put(nil, n), rest...); !bytes.Equal(back, b) {
			t.Errorf("Take(%v) is %d, %v; put again it is %v", b, n, rest, back)
		}
	}
}

// R3

// roomy are bytes with spare room behind, and all of that memory.
func roomy(b []byte) ([]byte, []byte) {
	row := append(bytes.Clone(b), 9, 8, 7, 6, 5, 4, 3, 2, 1, 0, 9, 8, 7)
	return row[:len(b)], row
}

// handed are bytes that calls are given: numbers' own, with some behind, and such that are none.
func handed() [][]byte {
	out := [][]byte{{}, {128}, {128, 0}, {128, 0, 5}, {5, 6, 7}, {0, 0}, {172, 2, 172, 2}, append(bytes.Repeat([]byte{255}, 9), 1, 3), append(bytes.Repeat([]byte{255}, 9), 2, 3), bytes.Repeat([]byte{255}, 12)}
	for _, x := range edges() {
		out = append(out, x.own, append(bytes.Clone(x.own), 200, 100))
	}
	return out
}

func TestWhatIsHandedInIsNotChanged(t *testing.T) {
	for _, h := range handed() {
		b, row := roomy(h)
		kept := bytes.Clone(row)
		for _, x := range edges() {
			Put(b, x.n)
		}
		Take(b)
		if !bytes.Equal(row, kept) {
			t.Errorf("%v became %v", kept, row)
		}
	}
}

// Changed behind the call, what was handed in changes no answer.
func TestWhatIsHandedInIsNotKept(t *testing.T) {
	for _, h := range handed() {
		for _, x := range edges() {
			b, row := roomy(h)
			put := Put(b, x.n)
			_, rest, _ := Take(b)
			want := bytes.Clone(rest)
			for i := range row {
				row[i] ^= 85
			}
			if !bytes.Equal(put, slices.Concat(h, x.own)) {
				t.Errorf("Put(%v, %d) became %v", h, x.n, put)
			}
			if !bytes.Equal(rest, want) {
				t.Errorf("Take(%v): behind it %v became %v", h, want, rest)
			}
		}
	}
}

// Each answer, changed up to its spare room's end, and with more put behind, changes nothing else.
func TestAnswersShareNoMemory(t *testing.T) {
	change := func(b []byte) {
		b = b[:cap(b)]
		for i := range b {
			b[i] ^= 85
		}
	}
	for _, h := range handed() {
		b, row := roomy(h)
		kept := bytes.Clone(row)
		first, second := Put(b, 300), Put(b, 300)
		n, rest, err := Take(b)
		_, again, _ := Take(b)
		want := bytes.Clone(again)
		change(first)
		change(rest)
		change(append(rest, 1, 2, 3))
		if !bytes.Equal(row, kept) {
			t.Errorf("%v: what was handed in shares memory with an answer", h)
		}
		if !bytes.Equal(second, slices.Concat(h, []byte{172, 2})) || !bytes.Equal(again, want) {
			t.Errorf("%v: two answers share memory", h)
		}
		if m, _, e := Take(b); m != n || e != err || !bytes.Equal(Put(b, 300), second) {
			t.Errorf("%v: answered otherwise later on", h)
		}
	}
}

// R4: an answer hangs on the bytes, not on what stands in the room behind them, nor on how much of it there is.
func TestAnswersHangOnBytesAlone(t *testing.T) {
	for _, h := range handed() {
		n, rest, err := Take(slices.Clip(bytes.Clone(h)))
		for _, c := range []byte{0, 1, 128, 255} {
			row := append(bytes.Clone(h), bytes.Repeat([]byte{c}, 20)...)
			m, other, e := Take(row[:len(h)])
			if m != n || !bytes.Equal(other, rest) || e != err {
				t.Errorf("Take(%v) is %d, %v, %d, with room of %d %d, %v, %d", h, n, rest, err, c, m, other, e)
			}
		}
	}
}
