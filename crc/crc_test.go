package crc

import (
	"bytes"
	"encoding/binary"
	"hash/crc32"
	"math/bits"
	"slices"
	"testing"

	"spellwright/api"
)

type summed struct {
	b   []byte
	sum uint32
}

// known are bytes with their sums, put down by hand.
func known() []summed {
	rising := everyByte()[:32]
	falling := slices.Clone(rising)
	slices.Reverse(falling)
	return []summed{
		{[]byte("123456789"), 0xcbf43926},
		{nil, 0}, {[]byte{}, 0},
		{[]byte{0}, 0xd202ef8d}, {[]byte{1}, 0xa505df1b}, {[]byte{128}, 0x3fba6cad}, {[]byte{254}, 0x88073096}, {[]byte{255}, 0xff000000},
		{[]byte{0, 0}, 0x41d912ff}, {[]byte{0, 0, 0, 0}, 0x2144df1c}, {[]byte{255, 255, 255, 255}, 0xffffffff},
		{make([]byte, 32), 0x190a55ad}, {bytes.Repeat([]byte{255}, 32), 0xff6cab0b}, {rising, 0x91267e8a}, {falling, 0x9ab0ef72},
		{[]byte("a"), 0xe8b7be43}, {[]byte("b"), 0x71beeff9}, {[]byte("ab"), 0x9e83486d}, {[]byte("ba"), 0x2ca74a14}, {[]byte("abc"), 0x352441c2},
		{[]byte("message digest"), 0x20159d7f}, {[]byte("abcdefghijklmnopqrstuvwxyz"), 0x4c2750bd},
		{[]byte("The quick brown fox jumps over the lazy dog"), 0x414fa339},
	}
}

// sealed are bytes with their sum behind, put down by hand.
func sealed() [][2][]byte {
	return [][2][]byte{
		{{}, {0, 0, 0, 0}},
		{{0}, {0, 0x8d, 0xef, 0x02, 0xd2}},
		{{255}, {255, 0, 0, 0, 255}},
		{{0, 0, 0, 0}, {0, 0, 0, 0, 0x1c, 0xdf, 0x44, 0x21}},
		{{255, 255, 255, 255}, {255, 255, 255, 255, 255, 255, 255, 255}},
		{[]byte("a"), []byte("a\x43\xbe\xb7\xe8")},
		{[]byte("abc"), []byte("abc\xc2\x41\x24\x35")},
		{[]byte("123456789"), []byte("123456789\x26\x39\xf4\xcb")},
		{[]byte("123456789\x26\x39\xf4\xcb"), []byte("123456789\x26\x39\xf4\xcb\x1c\xdf\x44\x21")},
	}
}

// dice are numbers that look like any, the same each time.
type dice uint64

func (d *dice) next() uint64 {
	*d = *d*6364136223846793005 + 1442695040888963407
	n := uint64(*d)
	return (n ^ n>>29) * 0xbf58476d1ce4e5b9
}

func (d *dice) bytes(long int) []byte {
	b := make([]byte, long)
	for i := range b {
		b[i] = byte(d.next() >> 32)
	}
	return b
}

func everyByte() []byte {
	var out []byte
	for c := range 256 {
		out = append(out, byte(c))
	}
	return out
}

// texts are the texts of at most so many of these bytes.
func texts(of []byte, long int) [][]byte {
	out := [][]byte{{}}
	begin := 0
	for range long {
		end := len(out)
		for _, b := range out[begin:end] {
			for _, c := range of {
				out = append(out, append(bytes.Clone(b), c))
			}
		}
		begin = end
	}
	return out
}

// some are bytes of many kinds, short and long.
func some() [][]byte {
	d := dice(3)
	l := texts([]byte{0, 1, 127, 128, 255}, 3)
	for _, x := range known() {
		l = append(l, x.b)
	}
	for long := range 70 {
		l = append(l, make([]byte, long), bytes.Repeat([]byte{255}, long), bytes.Repeat([]byte{85}, long), d.bytes(long))
	}
	return append(l, everyByte(), d.bytes(1000), d.bytes(4096))
}

// slowSum says what the chapter says, with no bit of a number told but by halves and what is left.
func slowSum(b []byte) uint32 {
	n := uint64(0xffffffff)
	for _, c := range b {
		low := n % 256
		n = n - low + slowUnlike(low, uint64(c))
		for step := 1; step <= 8; step++ {
			was := n
			n = was / 2
			if was%2 == 1 {
				n = slowUnlike(n, 0xedb88320)
			}
		}
	}
	return uint32(slowUnlike(n, 0xffffffff))
}

// slowUnlike is exclusive-or, bit by bit.
func slowUnlike(x, y uint64) uint64 {
	var out uint64
	for place := uint64(1); x > 0 || y > 0; place *= 2 {
		if x%2 != y%2 {
			out += place
		}
		x /= 2
		y /= 2
	}
	return out
}

// slowSeal are bytes, and their sum's four behind, the lowest first.
func slowSeal(b []byte) []byte {
	sum := slowSum(b)
	out := bytes.Clone(b)
	for range 4 {
		out = append(out, byte(sum%256))
		sum /= 256
	}
	return out
}

// slowOpen tries each of the bytes' beginnings: which one, sealed, are they? It tells how many those are; -1, if there is none.
func slowOpen(b []byte) int {
	for long := range len(b) + 1 {
		if bytes.Equal(slowSeal(b[:long]), b) {
			return long
		}
	}
	return -1
}

// librarySeal does the same for many bytes.
func librarySeal(b []byte) []byte {
	return binary.LittleEndian.AppendUint32(bytes.Clone(b), crc32.ChecksumIEEE(b))
}

func checkSum(t *testing.T, b []byte, want uint32) {
	t.Helper()
	if got := Sum(b); got != want {
		t.Errorf("Sum(%v) is %08x, want %08x", short(b), got, want)
	}
}

func checkSeal(t *testing.T, b, want []byte) {
	t.Helper()
	if got := Seal(b); !bytes.Equal(got, want) {
		t.Errorf("Seal(%v) is %v, want %v", short(b), short(got), short(want))
	}
}

func checkOpen(t *testing.T, b, want []byte) {
	t.Helper()
	if got, err := Open(b); !bytes.Equal(got, want) || err != api.OK {
		t.Errorf("Open(%v) is %v, %d, want %v, OK", short(b), short(got), err, short(want))
	}
}

// checkWrong looks at the bytes, too: beside an error there are none.
func checkWrong(t *testing.T, b []byte) {
	t.Helper()
	if got, err := Open(b); len(got) != 0 || err != api.ErrCrc {
		t.Errorf("Open(%v) is %v, %d, want nothing, ErrCrc", short(b), short(got), err)
	}
}

// short are the first and the last ones of many bytes.
func short(b []byte) []byte {
	if len(b) > 60 {
		return slices.Concat(b[:30], b[len(b)-30:])
	}
	return b
}

// P14.1

func TestSumOfKnownBytes(t *testing.T) {
	for _, x := range known() {
		checkSum(t, x.b, x.sum)
	}
}

func TestSumOfTheExample(t *testing.T) {
	checkSum(t, []byte("123456789"), 0xcbf43926)
}

func TestSumOfNoBytes(t *testing.T) {
	for _, b := range [][]byte{nil, {}, make([]byte, 0, 9), []byte("ab")[:0], []byte("ab")[2:]} {
		checkSum(t, b, 0)
	}
}

func TestSumOfEachSingleByte(t *testing.T) {
	seen := map[uint32]bool{}
	for _, c := range everyByte() {
		checkSum(t, []byte{c}, slowSum([]byte{c}))
		checkSum(t, []byte{c}, crc32.ChecksumIEEE([]byte{c}))
		seen[Sum([]byte{c})] = true
	}
	if len(seen) != 256 {
		t.Errorf("256 single bytes have %d sums", len(seen))
	}
}

func TestSumOfAllPairs(t *testing.T) {
	for _, a := range everyByte() {
		for _, c := range everyByte() {
			checkSum(t, []byte{a, c}, slowSum([]byte{a, c}))
		}
	}
}

func TestSumStepByStep(t *testing.T) {
	for _, b := range some() {
		checkSum(t, b, slowSum(b))
	}
	for _, b := range texts([]byte{0, 1, 2, 128, 254, 255}, 5) {
		checkSum(t, b, slowSum(b))
	}
}

func TestSumOfBytesThatAreAllOne(t *testing.T) {
	for _, c := range []byte{0, 255, 1, 128, 85, 170} {
		for long := range 300 {
			b := bytes.Repeat([]byte{c}, long)
			checkSum(t, b, slowSum(b))
		}
		for _, long := range []int{1 << 12, 1<<16 - 1, 1 << 16, 1<<16 + 1} {
			b := bytes.Repeat([]byte{c}, long)
			checkSum(t, b, crc32.ChecksumIEEE(b))
		}
	}
}

// The library has sums by the same steps.
func TestSumAgainstTheLibrary(t *testing.T) {
	d := dice(1)
	for i := range 20000 {
		b := d.bytes(i % 150)
		checkSum(t, b, crc32.ChecksumIEEE(b))
	}
}

func TestSumOfMany(t *testing.T) {
	d := dice(2)
	for _, long := range []int{1000, 1<<16 - 1, 1 << 16, 1<<16 + 1, 1 << 20, 1<<24 + 3} {
		b := d.bytes(long)
		checkSum(t, b, crc32.ChecksumIEEE(b))
	}
}

// Each bit of each byte changes the sum, and the order of bytes does, and bytes 0 ahead or behind.
func TestSumHangsOnEachByte(t *testing.T) {
	b := []byte("spellwright")
	for at := range b {
		for _, c := range everyByte() {
			other := bytes.Clone(b)
			other[at] = c
			if same := c == b[at]; (Sum(other) == Sum(b)) != same {
				t.Errorf("Sum(%q) beside Sum(%q)", other, b)
			}
		}
	}
	seen := map[uint32]int{}
	for ahead := range 40 {
		for behind := range 40 {
			seen[Sum(slices.Concat(make([]byte, ahead), b, make([]byte, behind)))]++
		}
	}
	for sum, many := range seen {
		if many != 1 {
			t.Errorf("%d of bytes with bytes 0 around them have the sum %08x", many, sum)
		}
	}
	if Sum([]byte("ab")) == Sum([]byte("ba")) {
		t.Error("ab and ba have one sum")
	}
}

// P14.2

func TestSealOfKnownBytes(t *testing.T) {
	for _, x := range sealed() {
		checkSeal(t, x[0], x[1])
	}
	checkSeal(t, nil, []byte{0, 0, 0, 0})
}

// The sum's four bytes stand behind, the lowest first: none of the other orders is told where the bytes differ.
func TestSealHasTheLowestByteFirst(t *testing.T) {
	for _, x := range known() {
		got := Seal(x.b)
		if len(got) != len(x.b)+4 || !bytes.Equal(got[:len(x.b)], x.b) {
			t.Fatalf("Seal(%v) is %v", x.b, got)
		}
		for at, c := range got[len(x.b):] {
			if want := byte(x.sum >> (8 * at)); c != want {
				t.Errorf("Seal(%v): the sum's byte %d is %d, want %d", x.b, at, c, want)
			}
		}
	}
}

func TestSealAgainstWords(t *testing.T) {
	for _, b := range some() {
		checkSeal(t, b, slowSeal(b))
	}
	for _, b := range texts(everyByte(), 1) {
		checkSeal(t, b, slowSeal(b))
	}
}

func TestSealOfMany(t *testing.T) {
	d := dice(4)
	for _, long := range []int{1<<16 - 1, 1 << 16, 1 << 20, 1<<22 + 1} {
		b := d.bytes(long)
		checkSeal(t, b, librarySeal(b))
		checkOpen(t, librarySeal(b), b)
	}
}

// What is sealed is bytes like others: it may be sealed again, and is opened as often.
func TestSealOfBytesThatAreSealed(t *testing.T) {
	for _, b := range some()[:200] {
		once := Seal(b)
		twice := Seal(once)
		checkSeal(t, once, slowSeal(once))
		checkSeal(t, twice, slowSeal(twice))
		checkOpen(t, Seal(twice), twice)
		checkOpen(t, twice, once)
		checkOpen(t, once, b)
	}
}

func TestOpenOfKnownBytes(t *testing.T) {
	for _, x := range sealed() {
		checkOpen(t, x[1], x[0])
	}
}

func TestOpenOfTooFewBytes(t *testing.T) {
	checkWrong(t, nil)
	checkWrong(t, []byte{})
	for _, c := range everyByte() {
		checkWrong(t, []byte{c})
		for _, e := range everyByte() {
			checkWrong(t, []byte{c, e})
		}
	}
	for _, b := range texts([]byte{0, 1, 2, 127, 128, 254, 255}, 3) {
		checkWrong(t, b)
	}
}

// Of four bytes none stand ahead: they are the sum of none, 0, or wrong.
func TestOpenOfFourBytes(t *testing.T) {
	checkOpen(t, []byte{0, 0, 0, 0}, nil)
	for at := range 4 {
		for c := 1; c < 256; c++ {
			b := make([]byte, 4)
			b[at] = byte(c)
			checkWrong(t, b)
		}
	}
	for _, b := range texts([]byte{0, 1, 128, 255}, 4) {
		if len(b) == 4 && !bytes.Equal(b, make([]byte, 4)) {
			checkWrong(t, b)
		}
	}
	checkWrong(t, []byte{0x26, 0x39, 0xf4, 0xcb})
	checkWrong(t, []byte{255, 255, 255, 255})
}

// orders are the orders in which four bytes may stand.
func orders(b [4]byte) [][]byte {
	var out [][]byte
	for i := range 256 {
		p := [4]int{i % 4, i / 4 % 4, i / 16 % 4, i / 64}
		if 1<<p[0]|1<<p[1]|1<<p[2]|1<<p[3] == 15 {
			out = append(out, []byte{b[p[0]], b[p[1]], b[p[2]], b[p[3]]})
		}
	}
	return out
}

func TestOpenOfSumInAnotherOrder(t *testing.T) {
	for _, b := range some() {
		own := [4]byte(slowSeal(b)[len(b):])
		l := orders(own)
		if len(l) != 24 {
			t.Fatalf("%d orders", len(l))
		}
		for _, other := range l {
			if bytes.Equal(other, own[:]) {
				checkOpen(t, slices.Concat(b, other), b)
			} else {
				checkWrong(t, slices.Concat(b, other))
			}
		}
	}
}

// The sum is that of all bytes ahead of it: of all but the last, or the first, of those with the sum, or with bytes 0 for it, it is another one.
func TestOpenOfSumOfOtherBytes(t *testing.T) {
	for _, b := range some() {
		whole := slowSeal(b)
		for _, other := range [][]byte{append(bytes.Clone(b), 0), append(bytes.Clone(b), 0, 0, 0, 0), whole, slices.Concat([]byte{0}, b)} {
			sum := slowSeal(other)[len(other):]
			if !bytes.Equal(sum, whole[len(b):]) {
				checkWrong(t, slices.Concat(b, sum))
			}
		}
		for long := range b {
			for _, other := range [][]byte{b[:long], b[len(b)-long:]} {
				if long > 64 && long < len(b)-3 {
					continue
				}
				checkWrong(t, slices.Concat(b, librarySeal(other)[long:]))
			}
		}
	}
}

// Sums that are near: one more or less, each bit turned, all of them, the number ahead of the end's exclusive-or.
func TestOpenOfNearSums(t *testing.T) {
	for _, b := range some() {
		sum := slowSum(b)
		wrong := []uint32{sum + 1, sum - 1, ^sum, -sum, sum / 2, sum ^ 0xedb88320, bits.ReverseBytes32(sum), bits.Reverse32(sum), 0, 0xffffffff}
		for bit := range 32 {
			wrong = append(wrong, sum^1<<bit)
		}
		for _, other := range wrong {
			all := binary.LittleEndian.AppendUint32(bytes.Clone(b), other)
			if other == sum {
				checkOpen(t, all, b)
			} else {
				checkWrong(t, all)
			}
		}
	}
}

func TestOpenWithSomethingBehind(t *testing.T) {
	for _, b := range some()[:300] {
		whole := slowSeal(b)
		for _, tail := range [][]byte{{0}, {1}, {10}, {255}, {0, 0}, {0, 0, 0}, {0, 0, 0, 0}, whole[len(b):], []byte("ab\n")} {
			all := slices.Concat(whole, tail)
			if long := slowOpen(all); long < 0 {
				checkWrong(t, all)
			} else {
				checkOpen(t, all, all[:long])
			}
		}
	}
	checkWrong(t, []byte("123456789\x26\x39\xf4\xcb\x00"))
	checkWrong(t, []byte("123456789\x26\x39\xf4\xcb\n"))
	checkWrong(t, []byte("\x00123456789\x26\x39\xf4\xcb"))
}

// Without its last byte, or more of them, what was sealed is wrong; what stands in spare room behind is none of it.
func TestOpenWithoutLastBytes(t *testing.T) {
	for _, b := range some()[:300] {
		whole := slowSeal(b)
		for less := 1; less <= len(whole); less++ {
			cut := whole[:len(whole)-less]
			if long := slowOpen(cut); long < 0 {
				checkWrong(t, cut)
				checkWrong(t, slices.Clip(bytes.Clone(cut)))
			} else {
				checkOpen(t, cut, cut[:long])
			}
		}
	}
	for less := 1; less <= 13; less++ {
		checkWrong(t, []byte("123456789\x26\x39\xf4\xcb")[:13-less])
		checkWrong(t, []byte("123456789\x26\x39\xf4\xcb")[less:])
	}
}

// All texts of four and of five of some bytes, and any bytes at all: just what is something sealed is opened.
func TestOpenOfAnyBytes(t *testing.T) {
	l := texts([]byte{0, 255, 0x8d, 0xef, 0x02, 0xd2}, 6)
	d := dice(5)
	for i := range 3000 {
		l = append(l, d.bytes(i%12))
	}
	opened := 0
	for _, b := range l {
		if long := slowOpen(b); long < 0 {
			checkWrong(t, b)
		} else {
			opened++
			checkOpen(t, b, b[:long])
		}
	}
	if opened < 4 {
		t.Errorf("%d were opened", opened)
	}
}

// P14.3

func TestSealedIsOpened(t *testing.T) {
	for _, b := range some() {
		checkOpen(t, Seal(b), b)
	}
	for _, a := range everyByte() {
		for _, c := range everyByte() {
			checkOpen(t, Seal([]byte{a, c}), []byte{a, c})
		}
	}
	d := dice(6)
	for i := range 20000 {
		b := d.bytes(i % 150)
		checkOpen(t, Seal(b), b)
	}
}

// turned are bytes with bits changed, from a place on; bits are counted from the first byte's lowest one on.
func turned(b []byte, from int, pattern uint64) []byte {
	out := bytes.Clone(b)
	for bit := range 64 {
		if pattern>>bit&1 == 1 {
			out[(from+bit)/8] ^= 1 << ((from + bit) % 8)
		}
	}
	return out
}

// checkTurned changes bits of what is sealed: then it is wrong.
func checkTurned(t *testing.T, whole []byte, from int, pattern uint64) {
	t.Helper()
	if from+bits.Len64(pattern) > 8*len(whole) {
		return
	}
	if got, err := Open(turned(whole, from, pattern)); err != api.ErrCrc || len(got) != 0 {
		t.Fatalf("Open(%v), with the bits %b from %d on changed, is %v, %d, want nothing, ErrCrc", short(whole), pattern, from, short(got), err)
	}
}

func TestEachOneBitChangedIsSeen(t *testing.T) {
	for _, b := range some() {
		whole := Seal(b)
		if len(whole) > 300 {
			continue
		}
		for from := range 8 * len(whole) {
			checkTurned(t, whole, from, 1)
		}
	}
	for _, a := range everyByte() {
		for _, c := range everyByte() {
			whole := Seal([]byte{a, c})
			for from := range 8 * len(whole) {
				checkTurned(t, whole, from, 1)
			}
		}
	}
}

// All patterns of up to ten bits in a row, and of each width up to 32: both ends alone, all of them, every second one.
func TestSomeBitsInARowChangedAreSeen(t *testing.T) {
	for _, b := range [][]byte{{}, {0}, {255}, []byte("ab"), []byte("123456789"), make([]byte, 12), bytes.Repeat([]byte{255}, 12)} {
		whole := Seal(b)
		for from := range 8 * len(whole) {
			for pattern := uint64(1); pattern < 1<<10; pattern++ {
				checkTurned(t, whole, from, pattern)
			}
			for width := 1; width <= 32; width++ {
				full := uint64(1)<<width - 1
				for _, pattern := range []uint64{full, 1 | 1<<(width-1), full & 0x55555555, full & 0xaaaaaaaa, full & 0xedb88320, full &^ 2} {
					if pattern > 0 {
						checkTurned(t, whole, from, pattern)
					}
				}
			}
		}
	}
}

// Any patterns of 32 bits in a row, wherever they stand, in the sum's own bytes, too, and across its begin.
func TestManyBitsInARowChangedAreSeen(t *testing.T) {
	d := dice(7)
	for _, long := range []int{0, 1, 2, 3, 4, 5, 8, 20, 64} {
		for range 40 {
			whole := Seal(d.bytes(long))
			for from := range 8*len(whole) - 31 {
				for range 4 {
					checkTurned(t, whole, from, d.next()>>32|1)
				}
			}
		}
	}
}

// unseen are the bits of 32 in a row that a change of sums tells nothing of: none, if no change of one bit's sum is made of those of the others. Then each of the 2^32 - 1 patterns is seen, since what changes in a sum by two bits is what changes by each, together.
func unseen(b []byte, from int) int {
	was := unlike(b)
	rows := map[int]uint32{}
	for bit := range 32 {
		change := unlike(turned(b, from, 1<<bit)) ^ was
		for change != 0 {
			top := bits.Len32(change)
			row, is := rows[top]
			if !is {
				rows[top] = change
				break
			}
			change ^= row
		}
	}
	return 32 - len(rows)
}

// unlike is how the last four bytes differ from the sum of those ahead: 0, where they are sealed.
func unlike(b []byte) uint32 {
	ahead := len(b) - 4
	return Sum(b[:ahead]) ^ binary.LittleEndian.Uint32(b[ahead:])
}

func TestAllBitsInARowChangedAreSeen(t *testing.T) {
	d := dice(8)
	for _, long := range []int{0, 1, 2, 3, 4, 5, 6, 7, 8, 9, 16, 33, 100, 400} {
		whole := Seal(d.bytes(long))
		for from := range 8*len(whole) - 31 {
			if many := unseen(whole, from); many != 0 {
				t.Errorf("of 32 bits from %d on of %d bytes, %d are not seen", from, len(whole), many)
			}
		}
	}
}

// What changes in a sum by two changes is what changes by each of them, together: what the one above leans on.
func TestChangesOfSumsAreTogether(t *testing.T) {
	d := dice(9)
	for i := range 5000 {
		long := i % 40
		b, x, y := d.bytes(long), d.bytes(long), d.bytes(long)
		bx, by, bxy := bytes.Clone(b), bytes.Clone(b), bytes.Clone(b)
		for j := range b {
			bx[j] ^= x[j]
			by[j] ^= y[j]
			bxy[j] ^= x[j] ^ y[j]
		}
		if Sum(b)^Sum(bx)^Sum(by) != Sum(bxy) {
			t.Errorf("Sum of %v with %v and %v changed", b, x, y)
		}
	}
}

// With bits far from one another a change may be unseen: that is not promised, and what is bytes with their sum is opened. Here it is the step's own number, with one bit more ahead of it, that is changed: 33 bits.
func TestBitsOfTheStepsOwnNumber(t *testing.T) {
	for _, b := range [][]byte{[]byte("123456789"), make([]byte, 5), []byte("spellwright")} {
		whole := Seal(b)
		for from := range 8*len(whole) - 32 {
			got, err := Open(turned(whole, from, 0xedb88320<<1|1))
			if want := turned(whole, from, 0xedb88320<<1|1)[:len(b)]; err != api.OK || !bytes.Equal(got, want) {
				t.Errorf("Open of %v with 33 bits from %d on changed is %v, %d", whole, from, got, err)
			}
		}
	}
}

// R3, R4: what is handed in is neither changed nor kept, its spare room included, and hangs on nothing behind it; what is answered is new memory.

// roomy are the same bytes with spare room behind them, and all of it.
func roomy(b []byte, room int, fill byte) (whole, piece []byte) {
	whole = append(bytes.Clone(b), bytes.Repeat([]byte{fill}, room)...)
	return whole, whole[:len(b)]
}

func TestHandedInIsNotChanged(t *testing.T) {
	for _, b := range some()[:300] {
		for _, room := range []int{0, 1, 3, 4, 5, 40} {
			for _, c := range []byte{0, 77, 255} {
				whole, piece := roomy(b, room, c)
				was := bytes.Clone(whole)
				checkSum(t, piece, slowSum(b))
				checkSeal(t, piece, slowSeal(b))
				Open(piece)
				if !bytes.Equal(whole, was) {
					t.Errorf("%v with room for %d is changed: %v", b, room, whole)
				}
			}
		}
	}
}

func TestOpenDoesNotHangOnSpareRoom(t *testing.T) {
	for _, b := range some()[:300] {
		sealedOnce := slowSeal(b)
		for _, room := range []int{0, 1, 4, 9} {
			for _, c := range []byte{0, 77, 255} {
				whole, piece := roomy(sealedOnce, room, c)
				was := bytes.Clone(whole)
				checkOpen(t, piece, b)
				if !bytes.Equal(whole, was) {
					t.Errorf("%v with room for %d is changed: %v", sealedOnce, room, whole)
				}
			}
		}
	}
}

func TestAnswersAreNewMemory(t *testing.T) {
	for _, b := range some()[:300] {
		for _, room := range []int{0, 4, 9} {
			whole, piece := roomy(b, room, 77)
			was := bytes.Clone(whole)
			got := Seal(piece)
			fill(got, 99)
			if !bytes.Equal(whole, was) {
				t.Errorf("Seal(%v) shares memory with what was handed in", b)
			}
			got = Seal(piece)
			fill(whole, 99)
			if !bytes.Equal(got, slowSeal(b)) {
				t.Errorf("Seal(%v) keeps what was handed in", b)
			}

			whole, piece = roomy(slowSeal(b), room, 77)
			was = bytes.Clone(whole)
			got, _ = Open(piece)
			fill(got, 99)
			if !bytes.Equal(whole, was) {
				t.Errorf("Open of %v sealed shares memory with what was handed in", b)
			}
			got, _ = Open(piece)
			fill(whole, 99)
			if !bytes.Equal(got, b) {
				t.Errorf("Open of %v sealed keeps what was handed in", b)
			}
		}
	}
}

// fill puts a byte into all of a list, its spare room included.
func fill(b []byte, c byte) {
	b = b[:cap(b)]
	for i := range b {
		b[i] = c
	}
}

// Two answers share no memory either, and none is kept from one call to the next.
func TestAnswersAreApart(t *testing.T) {
	for _, b := range some()[:300] {
		first, second := Seal(b), Seal(b)
		fill(first, 99)
		if !bytes.Equal(second, slowSeal(b)) {
			t.Errorf("two answers of Seal(%v) share memory", b)
		}
		opened, _ := Open(second)
		other, _ := Open(second)
		fill(opened, 99)
		if !bytes.Equal(other, b) {
			t.Errorf("two answers of Open of %v sealed share memory", b)
		}
	}
	checkSum(t, []byte("123456789"), 0xcbf43926)
	checkSum(t, nil, 0)
	checkSeal(t, nil, []byte{0, 0, 0, 0})
}
