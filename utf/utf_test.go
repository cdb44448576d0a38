package utf

import (
	"bytes"
	"math"
	"slices"
	"testing"
	"unicode/utf8"

	"spellwright/api"
)

type edge struct {
	sign  int
	bytes []byte
}

// edges are signs with their bytes, reckoned by hand from the chapter: those around each change of how many bytes there are, around the halves, and the two ends.
func edges() []edge {
	return []edge{
		{0, []byte{0}},
		{1, []byte{1}},
		{10, []byte{10}},
		{65, []byte{65}},
		{127, []byte{127}},
		{128, []byte{194, 128}},
		{129, []byte{194, 129}},
		{191, []byte{194, 191}},
		{192, []byte{195, 128}},
		{228, []byte{195, 164}},
		{2047, []byte{223, 191}},
		{2048, []byte{224, 160, 128}},
		{4095, []byte{224, 191, 191}},
		{4096, []byte{225, 128, 128}},
		{8364, []byte{226, 130, 172}},
		{55295, []byte{237, 159, 191}},
		{57344, []byte{238, 128, 128}},
		{65279, []byte{239, 187, 191}},
		{65533, []byte{239, 191, 189}},
		{65535, []byte{239, 191, 191}},
		{65536, []byte{240, 144, 128, 128}},
		{128512, []byte{240, 159, 152, 128}},
		{262143, []byte{240, 191, 191, 191}},
		{262144, []byte{241, 128, 128, 128}},
		{1048576, []byte{244, 128, 128, 128}},
		{1114111, []byte{244, 143, 191, 191}},
	}
}

// noSigns are numbers that are none; some wrap round to a sign in 32, 21 or 8 bits.
func noSigns() []int {
	return []int{-1, -65, -128, -55296, math.MinInt, math.MinInt32, 55296, 55297, 56319, 56320, 57342, 57343, 1114112, 1114113, 1<<21 + 65, math.MaxInt32, 1<<32 + 65, 1<<40 + 228, math.MaxInt}
}

// noBytes are bytes that begin with no sign's.
func noBytes() [][]byte {
	return [][]byte{
		{},
		{128}, {191}, {128, 128}, {191, 65},
		{192, 128}, {192, 191}, {193, 128}, {193, 191},
		{194}, {223}, {194, 65}, {194, 127}, {194, 192}, {194, 194, 128},
		{224}, {224, 160}, {224, 128, 128}, {224, 159, 191}, {226, 130}, {226, 130, 65}, {226, 65, 172}, {226, 130, 192}, {226, 194, 172},
		{237, 160, 128}, {237, 175, 191}, {237, 176, 128}, {237, 191, 191},
		{240}, {240, 144}, {240, 144, 128}, {240, 128, 128, 128}, {240, 143, 191, 191}, {240, 144, 128, 65}, {240, 144, 65, 128}, {240, 65, 128, 128}, {240, 144, 128, 192},
		{244, 144, 128, 128}, {244, 191, 191, 191}, {245, 128, 128, 128}, {247, 191, 191, 191},
		{248, 128, 128, 128}, {248, 136, 128, 128, 128}, {251, 191, 191, 191, 191}, {252, 132, 128, 128, 128, 128}, {253, 191, 191, 191, 191, 191}, {254}, {255}, {255, 191, 191, 191},
	}
}

func TestGoodOfEdges(t *testing.T) {
	for _, c := range edges() {
		if !Good(c.sign) {
			t.Errorf("Good(%d) is false", c.sign)
		}
	}
	for _, n := range noSigns() {
		if Good(n) {
			t.Errorf("Good(%d) is true", n)
		}
	}
}

func TestGoodOfAllNearby(t *testing.T) {
	for n := -70000; n <= api.MaxRune+70000; n++ {
		want := n >= 0 && n < api.LowHalf || n > api.HighHalf && n <= api.MaxRune
		if Good(n) != want {
			t.Fatalf("Good(%d) is %v", n, !want)
		}
	}
}

func TestPutOne(t *testing.T) {
	for _, c := range edges() {
		b, err := Put([]int{c.sign})
		if err != api.OK || !bytes.Equal(b, c.bytes) {
			t.Errorf("Put(%d): %v, %v; want %v", c.sign, b, err, c.bytes)
		}
	}
}

func TestPutMany(t *testing.T) {
	var signs []int
	var want []byte
	for _, c := range edges() {
		signs = append(signs, c.sign, 97)
		want = append(append(want, c.bytes...), 97)
	}
	b, err := Put(signs)
	if err != api.OK || !bytes.Equal(b, want) {
		t.Errorf("Put: %v, %v; want %v", b, err, want)
	}
}

func TestPutNone(t *testing.T) {
	for _, l := range [][]int{nil, {}} {
		if b, err := Put(l); len(b) != 0 || err != api.OK {
			t.Errorf("Put of no signs: %v, %v", b, err)
		}
	}
}

func TestPutOfNoSign(t *testing.T) {
	for _, n := range noSigns() {
		for _, l := range [][]int{{n}, {n, 65}, {65, n}, {65, n, 228}, {n, n}} {
			if b, err := Put(l); len(b) != 0 || err != api.ErrUtf {
				t.Errorf("Put(%v): %v, %v", l, b, err)
			}
		}
	}
}

func TestTakeOne(t *testing.T) {
	behind := [][]byte{nil, {0}, {65}, {128}, {191}, {195}, {195, 164}, {244, 143, 191, 191}, {255, 255}}
	for _, c := range edges() {
		for _, more := range behind {
			b := slices.Concat(c.bytes, more)
			n, size, err := Take(b)
			if n != c.sign || size != len(c.bytes) || err != api.OK {
				t.Errorf("Take(%v): %d, %d, %v; want %d, %d", b, n, size, err, c.sign, len(c.bytes))
			}
		}
	}
}

func TestTakeOfCutBytes(t *testing.T) {
	for _, c := range edges() {
		for k := range len(c.bytes) {
			// The rest stands in the spare room, where it must not be read.
			if n, size, err := Take(c.bytes[:k]); n != 0 || size != 0 || err != api.ErrUtf {
				t.Errorf("Take(%v): %d, %d, %v", c.bytes[:k], n, size, err)
			}
		}
	}
}

func TestTakeOfNoSign(t *testing.T) {
	for _, b := range append(noBytes(), nil) {
		if n, size, err := Take(b); n != 0 || size != 0 || err != api.ErrUtf {
			t.Errorf("Take(%v): %d, %d, %v", b, n, size, err)
		}
	}
}

// TestTakeAsLibrary holds Take against the library's own reading, for all first two bytes, with the bytes behind them that matter.
func TestTakeAsLibrary(t *testing.T) {
	tails := []byte{0, 65, 127, 128, 143, 144, 160, 191, 192, 255}
	for first := range 256 {
		for second := range 256 {
			for _, third := range tails {
				for _, fourth := range tails {
					checkTake(t, []byte{byte(first), byte(second), third, fourth})
				}
			}
		}
	}
}

func checkTake(t *testing.T, b []byte) {
	n, size, err := Take(b)
	r, k := utf8.DecodeRune(b)
	if r == utf8.RuneError && k <= 1 {
		if n != 0 || size != 0 || err != api.ErrUtf {
			t.Fatalf("Take(%v): %d, %d, %v; want ErrUtf", b, n, size, err)
		}
	} else if n != int(r) || size != k || err != api.OK {
		t.Fatalf("Take(%v): %d, %d, %v; want %d, %d", b, n, size, err, r, k)
	}
}

func TestReadMany(t *testing.T) {
	var want []int
	var b []byte
	for _, c := range edges() {
		want = append(want, c.sign)
		b = append(b, c.bytes...)
	}
	l, err := Read(b)
	if err != api.OK || !slices.Equal(l, want) {
		t.Errorf("Read: %v, %v; want %v", l, err, want)
	}
}

func TestReadNone(t *testing.T) {
	for _, b := range [][]byte{nil, {}} {
		if l, err := Read(b); len(l) != 0 || err != api.OK {
			t.Errorf("Read of no bytes: %v, %v", l, err)
		}
	}
}

func TestReadOfNoSigns(t *testing.T) {
	for _, wrong := range noBytes() {
		if len(wrong) == 0 {
			continue
		}
		for _, b := range [][]byte{
			wrong,
			slices.Concat([]byte("ab"), wrong),
			slices.Concat(wrong, []byte("ab")),
			slices.Concat([]byte{195, 164}, wrong, []byte{226, 130, 172}),
		} {
			if l, err := Read(b); len(l) != 0 || err != api.ErrUtf {
				t.Errorf("Read(%v): %v, %v", b, l, err)
			}
		}
	}
}

// P1.3: signs are read as they were put, each of them.
func TestEachSignIsReadAsPut(t *testing.T) {
	var all []int
	for n := 0; n <= api.MaxRune; n++ {
		if n >= api.LowHalf && n <= api.HighHalf {
			continue
		}
		all = append(all, n)
		b, err := Put([]int{n})
		got, size, take := Take(b)
		if err != api.OK || got != n || size != len(b) || take != api.OK {
			t.Fatalf("%d: Put %v, %v; Take %d, %d, %v", n, b, err, got, size, take)
		}
	}
	b, err := Put(all)
	l, read := Read(b)
	if err != api.OK || read != api.OK || !slices.Equal(l, all) {
		t.Errorf("all signs: %v, %v, %d of %d", err, read, len(l), len(all))
	}
}

// P1.3: bytes of which signs are read are these signs' bytes. Bytes are made of those that stand at the chapter's edges, four at a time.
func TestBytesThatAreReadArePut(t *testing.T) {
	some := []byte{0, 65, 127, 128, 129, 143, 144, 159, 160, 191, 192, 193, 194, 195, 223, 224, 225, 237, 238, 239, 240, 241, 244, 245, 247, 248, 255}
	for _, first := range some {
		for _, second := range some {
			for _, third := range some {
				for _, fourth := range some {
					checkPutBack(t, []byte{first, second, third, fourth})
				}
			}
		}
	}
}

func checkPutBack(t *testing.T, b []byte) {
	l, err := Read(b)
	if err != api.OK {
		if utf8.Valid(b) || len(l) != 0 {
			t.Fatalf("Read(%v): %v, %v", b, l, err)
		}
		return
	}
	if back, put := Put(l); put != api.OK || !bytes.Equal(back, b) {
		t.Fatalf("Read(%v): %v; Put of it: %v, %v", b, l, back, put)
	}
}

// P1.3: one sign's bytes stand ahead of the next sign's.
func TestSignsStandAsTheirBytes(t *testing.T) {
	var last []byte
	for n := 0; n <= api.MaxRune; n++ {
		if n >= api.LowHalf && n <= api.HighHalf {
			continue
		}
		b, _ := Put([]int{n})
		if bytes.Compare(last, b) >= 0 {
			t.Fatalf("%d: %v does not stand behind %v", n, b, last)
		}
		last = b
	}
}

// P1.3: so do lists of signs.
func TestListsStandAsTheirBytes(t *testing.T) {
	lists := [][]int{nil}
	for _, c := range edges() {
		lists = append(lists, []int{c.sign})
		for _, d := range edges() {
			lists = append(lists, []int{c.sign, d.sign})
		}
	}
	for _, x := range lists {
		for _, y := range lists {
			p, _ := Put(x)
			q, _ := Put(y)
			if bytes.Compare(p, q) != slices.Compare(x, y) {
				t.Fatalf("%v and %v stand otherwise than %v and %v", x, y, p, q)
			}
		}
	}
}

// R3: what is handed in is not changed, nor is its spare room; what is answered twice is not shared.
func TestNothingIsChangedOrShared(t *testing.T) {
	signs := []int{228, 8364, 65, 66, 67}
	text := []byte{195, 164, 226, 130, 172, 65, 66, 67}
	keptSigns, keptText := slices.Clone(signs), slices.Clone(text)
	first, _ := Put(signs[:2])
	second, _ := Put(signs[:2])
	third, _ := Read(text[:5])
	fourth, _ := Read(text[:5])
	Take(text[:2])
	clear(first[:cap(first)])
	clear(third[:cap(third)])
	if !slices.Equal(signs, keptSigns) || !bytes.Equal(text, keptText) {
		t.Errorf("changed: %v, %v", signs, text)
	}
	if !bytes.Equal(second, keptText[:5]) || !slices.Equal(fourth, keptSigns[:2]) {
		t.Errorf("shared: %v, %v", second, fourth)
	}
}
