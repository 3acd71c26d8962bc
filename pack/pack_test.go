package pack_test

import (
	"bytes"
	"encoding/binary"
	"hash/crc32"
	"math"
	"slices"
	"testing"

	"cuvette/api"
	"cuvette/pack"
)

// noWidths are so many octets as no number has.
var noWidths = []int{0, -1, -8, 9, 16, 64, math.MinInt, math.MaxInt}

// rising is so many octets, from one on, each one greater.
func rising(from byte, many int) []byte {
	b := make([]byte, many)
	for i := range b {
		b[i] = from + byte(i)
	}
	return b
}

// octets are the lowest ones of a number of 64 bits: those of a number below 0, and 2 to the power of 64, end with those of it, and a lower power.
func octets(n int64, width int) []byte {
	return binary.LittleEndian.AppendUint64(nil, uint64(n))[:width]
}

// least is the least number of so many octets: the greatest one is one less than it is below 0.
func least(width int) int64 {
	n := int64(-128)
	for range width - 1 {
		n *= 256
	}
	return n
}

// numbers are some of so many octets, the least and the greatest one among them.
func numbers(width int) []int64 {
	min := least(width)
	max := -(min + 1)
	l := []int64{0, 1, -1, 2, -2, 5, -5, 127, -127, -128, min, min + 1, min / 2, min/2 - 1, max, max - 1, max / 2, max/2 + 1}
	for w := 1; w < width; w++ {
		under := least(w)
		l = append(l, under, under-1, under+1, -under, -under-1, -under+1, -2*under, 2*under)
	}
	return l
}

// draw is a number that hangs on the one ahead of it, so that it is the same in every run.
func draw(x *uint64) uint64 {
	*x = *x*6364136223846793005 + 1442695040888963407
	return *x >> 11
}

// puts holds what Put tells against what it is to tell.
func puts(t *testing.T, b []byte, width int, l []int64, want []byte, wantE api.Errno) {
	t.Helper()
	if out, e := pack.Put(b, width, l...); !bytes.Equal(out, want) || e != wantE {
		t.Errorf("Put of %d octets, %d, %d numbers: got %d octets, %d, want %d, %d", len(b), width, len(l), len(out), e, len(want), wantE)
	}
}

// takes holds what Take tells against what it is to tell.
func takes(t *testing.T, b []byte, width, n int, want []int64, wantRest []byte, wantE api.Errno) {
	t.Helper()
	if l, rest, e := pack.Take(b, width, n); !slices.Equal(l, want) || !bytes.Equal(rest, wantRest) || e != wantE {
		t.Errorf("Take of %d octets, %d, %d numbers: got %d, %d octets, %d, want %d, %d, %d", len(b), width, n, len(l), len(rest), e, len(want), len(wantRest), wantE)
	}
}

// lists holds what List tells against what it is to tell.
func lists(t *testing.T, l [][]byte, want []byte, wantE api.Errno) {
	t.Helper()
	if out, e := pack.List(l); !bytes.Equal(out, want) || e != wantE {
		t.Errorf("List of %d texts: got %d octets, %d, want %d, %d", len(l), len(out), e, len(want), wantE)
	}
}

// cuts holds what Cut tells against what it is to tell.
func cuts(t *testing.T, b []byte, want [][]byte, wantE api.Errno) {
	t.Helper()
	if l, e := pack.Cut(b); !slices.EqualFunc(l, want, bytes.Equal) || e != wantE {
		t.Errorf("Cut of %d octets: got %d texts, %d, want %d, %d", len(b), len(l), e, len(want), wantE)
	}
}

// P3.1
func TestPut(t *testing.T) {
	for i, x := range []struct {
		b     []byte
		width int
		l     []int64
		want  []byte
	}{
		{nil, 2, []int64{-2}, []byte{254, 255}}, // the document's example
		{nil, 1, []int64{-128, -1, 0, 1, 127}, []byte{128, 255, 0, 1, 127}},
		{[]byte{9, 8}, 3, []int64{-8388608, 8388607, 0x010203}, []byte{9, 8, 0, 0, 128, 255, 255, 127, 3, 2, 1}},
		{[]byte{7}, 4, []int64{math.MinInt32, math.MaxInt32}, []byte{7, 0, 0, 0, 128, 255, 255, 255, 127}},
		{nil, 8, []int64{math.MinInt64, math.MaxInt64}, []byte{0, 0, 0, 0, 0, 0, 0, 128, 255, 255, 255, 255, 255, 255, 255, 127}},
		{nil, 8, []int64{0x0102030405060708}, []byte{8, 7, 6, 5, 4, 3, 2, 1}},
		{nil, 5, nil, nil},
		{[]byte{1, 2, 3}, 5, nil, []byte{1, 2, 3}},
	} {
		if out, e := pack.Put(x.b, x.width, x.l...); !bytes.Equal(out, x.want) || e != api.OK {
			t.Errorf("%d: got %v, %d, want %v", i, out, e, x.want)
		}
	}
	if out, e := pack.Put([]byte{1}, 2, 3, -4, 5); !bytes.Equal(out, []byte{1, 3, 0, 252, 255, 5, 0}) || e != api.OK {
		t.Errorf("one by one: got %v, %d", out, e)
	}
}

// P3.1
func TestPutOfEveryWidth(t *testing.T) {
	for width := 1; width <= 8; width++ {
		all := rising(3, 5)
		for _, n := range numbers(width) {
			puts(t, nil, width, []int64{n}, octets(n, width), api.OK)
			all = append(all, octets(n, width)...)
		}
		puts(t, rising(3, 5), width, numbers(width), all, api.OK)
	}
}

// P3.1: the least number and the greatest one have so many octets, the next ones have not, wherever they stand
func TestPutOfLarge(t *testing.T) {
	for width := 1; width < 8; width++ {
		min := least(width)
		for _, n := range []int64{min - 1, -min, min * 2, -min * 2, 1 << (8 * width), 1<<(8*width) - 1, math.MinInt64, math.MaxInt64} {
			puts(t, nil, width, []int64{n}, nil, api.ErrLarge)
			puts(t, []byte{1}, width, []int64{n, 0, min}, nil, api.ErrLarge)
			puts(t, []byte{1}, width, []int64{0, n, 1}, nil, api.ErrLarge)
			puts(t, nil, width, []int64{0, min, n}, nil, api.ErrLarge)
		}
	}
}

// P3.1: a text has at most 65536 octets
func TestPutOfLong(t *testing.T) {
	for width := 1; width <= 8; width++ {
		for _, many := range []int{0, 1, 2, 1000, 65536 / width} {
			room := 65536 - many*width
			l := make([]int64, many)
			for i := range l {
				l[i] = int64(i % 100)
			}
			behind := make([]byte, 0, many*width)
			for _, n := range l {
				behind = append(behind, octets(n, width)...)
			}
			b := rising(1, room)
			puts(t, b, width, l, append(bytes.Clone(b), behind...), api.OK)
			puts(t, rising(1, room+1), width, l, nil, api.ErrLong)
			puts(t, b, width, append(l, 1), nil, api.ErrLong)
		}
		puts(t, make([]byte, 65537), width, nil, nil, api.ErrLong)
		puts(t, make([]byte, 1<<20), width, []int64{1}, nil, api.ErrLong)
		puts(t, nil, width, make([]int64, 1<<20), nil, api.ErrLong)
	}
}

// P3.1: of several errors the one that is named first is told
func TestPutErrs(t *testing.T) {
	for _, width := range noWidths {
		puts(t, nil, width, nil, nil, api.ErrArg)
		puts(t, []byte{1, 2}, width, []int64{1, 2}, nil, api.ErrArg)
		puts(t, nil, width, []int64{math.MaxInt64, math.MinInt64}, nil, api.ErrArg)
		puts(t, make([]byte, 65537), width, []int64{math.MaxInt64}, nil, api.ErrArg)
	}
	for width := 1; width < 8; width++ {
		puts(t, make([]byte, 65537), width, []int64{math.MaxInt64}, nil, api.ErrLarge)
		puts(t, nil, width, append(make([]int64, 65536), math.MinInt64), nil, api.ErrLarge)
	}
}

// P3.1
func TestTake(t *testing.T) {
	for i, x := range []struct {
		b     []byte
		width int
		n     int
		want  []int64
		rest  []byte
	}{
		{[]byte{254, 255}, 2, 1, []int64{-2}, nil},
		{[]byte{254, 255}, 1, 2, []int64{-2, -1}, nil},
		{[]byte{254, 255}, 1, 1, []int64{-2}, []byte{255}},
		{[]byte{254, 255}, 2, 0, nil, []byte{254, 255}},
		{[]byte{255, 0}, 2, 1, []int64{255}, nil},
		{[]byte{1, 2, 3, 4, 5, 6, 128, 7}, 3, 2, []int64{0x030201, 0x060504}, []byte{128, 7}},
		{[]byte{1, 2, 131, 4, 5, 6}, 3, 1, []int64{0x030201 - 1<<23}, []byte{4, 5, 6}},
		{[]byte{8, 7, 6, 5, 4, 3, 2, 1, 0}, 8, 1, []int64{0x0102030405060708}, []byte{0}},
		{[]byte{0, 0, 0, 0, 0, 0, 0, 128}, 8, 1, []int64{math.MinInt64}, nil},
		{nil, 1, 0, nil, nil},
	} {
		if l, rest, e := pack.Take(x.b, x.width, x.n); !slices.Equal(l, x.want) || !bytes.Equal(rest, x.rest) || e != api.OK {
			t.Errorf("%d: got %v, %v, %d, want %v, %v", i, l, rest, e, x.want, x.rest)
		}
	}
}

// P3.1
func TestTakeOfEveryWidth(t *testing.T) {
	for width := 1; width <= 8; width++ {
		l := numbers(width)
		var all []byte
		for _, n := range l {
			all = append(all, octets(n, width)...)
		}
		for n := range len(l) + 1 {
			takes(t, all, width, n, l[:n], all[n*width:], api.OK)
			takes(t, all[:n*width], width, n, l[:n], nil, api.OK)
		}
	}
}

// P3.1: fewer octets than so many numbers have, by one, or by all
func TestTakeOfShort(t *testing.T) {
	for width := 1; width <= 8; width++ {
		for _, n := range []int{1, 2, 3, 100, 65535, 65536} {
			b := make([]byte, n*width)
			takes(t, b, width, n, make([]int64, n), nil, api.OK)
			takes(t, b[1:], width, n, nil, nil, api.ErrForm)
			takes(t, b[width:], width, n, nil, nil, api.ErrForm)
			takes(t, nil, width, n, nil, nil, api.ErrForm)
		}
	}
}

// P3.1: what may not be handed in comes ahead of a text that is too short; a text may have any length
func TestTakeErrs(t *testing.T) {
	for _, b := range [][]byte{nil, {1}, make([]byte, 100), make([]byte, 1<<20)} {
		for _, width := range noWidths {
			for _, n := range []int{0, 1, 65536, -1, 65537} {
				takes(t, b, width, n, nil, nil, api.ErrArg)
			}
		}
		for width := 1; width <= 8; width++ {
			for _, n := range []int{-1, -2, 65537, 65538, 1 << 61, math.MinInt, math.MaxInt} {
				takes(t, b, width, n, nil, nil, api.ErrArg)
			}
		}
	}
	long := bytes.Repeat([]byte{1}, 1<<20)
	takes(t, long, 8, 65536, slices.Repeat([]int64{0x0101010101010101}, 65536), long[8*65536:], api.OK)
	takes(t, long, 1, 0, nil, long, api.OK)
}

// head is a text's length, as it stands ahead of it.
func head(n uint32) []byte { return binary.LittleEndian.AppendUint32(nil, n) }

// behindOneAnother is a list of texts as it is to be.
func behindOneAnother(l [][]byte) []byte {
	var b []byte
	for _, t := range l {
		b = append(append(b, head(uint32(len(t)))...), t...)
	}
	return b
}

// someLists are lists of texts, some of which are empty.
func someLists() [][][]byte {
	return [][][]byte{
		nil,
		{},
		{nil},
		{{}, nil, {}},
		{{5}},
		{{1, 2, 3}, {4}, {}, {5, 6}},
		{{}, {0, 0, 0, 0}, {1, 0, 0, 0, 9}},
		{rising(0, 255), rising(0, 256), rising(0, 257)},
		{rising(1, 65532)},
		{rising(1, 30000), rising(2, 35528)},
		make([][]byte, 16384),
	}
}

// P3.2
func TestList(t *testing.T) {
	out, e := pack.List([][]byte{[]byte("ab"), nil, []byte("c")})
	if want := []byte{2, 0, 0, 0, 'a', 'b', 0, 0, 0, 0, 1, 0, 0, 0, 'c'}; !bytes.Equal(out, want) || e != api.OK {
		t.Errorf("got %v, %d, want %v", out, e, want)
	}
	for _, l := range someLists() {
		lists(t, l, behindOneAnother(l), api.OK)
	}
}

// P3.2: a list of texts has at most 65536 octets, their lengths among them
func TestListOfLong(t *testing.T) {
	big := make([]byte, 1<<25)
	for _, l := range [][][]byte{
		{make([]byte, 65533)},
		{make([]byte, 65536)},
		{make([]byte, 65528), {}, {}},
		{{}, {1}, make([]byte, 65524)},
		{make([]byte, 30000), make([]byte, 35529)},
		make([][]byte, 16385),
		{big},
		slices.Repeat([][]byte{big}, 1000),
	} {
		lists(t, l, nil, api.ErrLong)
	}
}

// P3.2
func TestCut(t *testing.T) {
	l, e := pack.Cut([]byte{2, 0, 0, 0, 'a', 'b', 0, 0, 0, 0, 1, 0, 0, 0, 'c'})
	if want := [][]byte{[]byte("ab"), nil, []byte("c")}; !slices.EqualFunc(l, want, bytes.Equal) || e != api.OK {
		t.Errorf("got %v, %d, want %v", l, e, want)
	}
	for _, l := range someLists() {
		cuts(t, behindOneAnother(l), l, api.OK)
	}
}

// P3.2: what ends within a length, or within a text, or has a length below 0, wherever it stands
func TestCutOfAnotherForm(t *testing.T) {
	bad := [][]byte{
		{0}, {0, 0}, {0, 0, 0}, {1, 2, 3},
		{1, 0, 0, 0}, {2, 0, 0, 0, 1}, {0, 1, 0, 0}, {0, 0, 1, 0}, {0, 0, 0, 1}, {5, 0, 0, 0, 1, 2, 3, 4},
		{0, 0, 0, 128}, {255, 255, 255, 127}, {255, 255, 255, 255}, {252, 255, 255, 255}, {248, 255, 255, 255}, {0, 0, 0, 128, 0, 0, 0, 0},
		{255, 255, 255, 255, 0}, {0, 0, 255, 255, 7, 7},
	}
	for _, behind := range bad {
		for _, ahead := range [][][]byte{nil, {{}}, {{1, 2, 3}, {4}}, {rising(1, 300)}} {
			cuts(t, append(behindOneAnother(ahead), behind...), nil, api.ErrForm)
		}
	}
	whole := behindOneAnother([][]byte{{1, 2, 3}, {}, {4, 5}})
	ends := []int{0, 7, 11, 17}
	for n := range whole {
		if !slices.Contains(ends, n) {
			cuts(t, whole[:n], nil, api.ErrForm)
		}
	}
	cuts(t, bytes.Repeat([]byte{255}, 65536), nil, api.ErrForm)
	cuts(t, append(head(65533), make([]byte, 65532)...), nil, api.ErrForm)
}

// P3.2: what is too long comes ahead of what has another form
func TestCutOfLong(t *testing.T) {
	for _, b := range [][]byte{
		append(head(65533), make([]byte, 65533)...),
		make([]byte, 65537),
		make([]byte, 65540),
		bytes.Repeat([]byte{255}, 65537),
		bytes.Repeat([]byte{255}, 1<<20),
	} {
		cuts(t, b, nil, api.ErrLong)
	}
}

// P3.3
func TestSum(t *testing.T) {
	for text, want := range map[string]uint32{
		"":                 0,
		"\x00":             0xd202ef8d,
		"\xff":             0xff000000,
		"a":                0xe8b7be43,
		"abc":              0x352441c2,
		"123456789":        0xcbf43926,
		"\x00\x00\x00\x00": 0x2144df1c,
		"\xff\xff\xff\xff": 0xffffffff,
		"The quick brown fox jumps over the lazy dog": 0x414fa339,
	} {
		if got := pack.Sum([]byte(text)); got != want {
			t.Errorf("%q: got %#x, want %#x", text, got, want)
		}
	}
	if got := pack.Sum(nil); got != 0 {
		t.Errorf("nothing: got %#x", got)
	}
}

// P3.3: every octet, many octets, and every bit of them counts
func TestSumOfAll(t *testing.T) {
	for c := range 256 {
		for _, b := range [][]byte{{byte(c)}, {byte(c), 0}, {0, byte(c)}, {1, 2, 3, 4, byte(c), 5}} {
			if got, want := pack.Sum(b), crc32.ChecksumIEEE(b); got != want {
				t.Errorf("%v: got %#x, want %#x", b, got, want)
			}
		}
	}
	for _, many := range []int{2, 31, 32, 33, 1000, 65536, 65537, 1 << 20} {
		if got, want := pack.Sum(rising(5, many)), crc32.ChecksumIEEE(rising(5, many)); got != want {
			t.Errorf("%d octets: got %#x, want %#x", many, got, want)
		}
	}
	b := rising(1, 40)
	sum := pack.Sum(b)
	for i := range 320 {
		b[i/8] ^= 1 << (i % 8)
		if pack.Sum(b) == sum {
			t.Errorf("bit %d: got %#x again", i, sum)
		}
		b[i/8] ^= 1 << (i % 8)
	}
}

// P3.4: what is put is taken
func TestPutIsTaken(t *testing.T) {
	for width := 1; width <= 8; width++ {
		x := uint64(width)
		l := numbers(width)
		for range 200 {
			l = append(l, int64(draw(&x)<<24^draw(&x))>>(64-8*width))
		}
		for _, behind := range [][]byte{nil, {0}, rising(1, 9)} {
			b, e := pack.Put(nil, width, l...)
			if e != api.OK {
				t.Fatalf("%d: got error %d", width, e)
			}
			takes(t, append(b, behind...), width, len(l), l, behind, api.OK)
		}
	}
}

// P3.4: what is taken is put as it was
func TestTakenIsPut(t *testing.T) {
	x := uint64(99)
	for width := 1; width <= 8; width++ {
		b := make([]byte, 50*width)
		for i := range b {
			b[i] = byte(draw(&x))
		}
		l, rest, e := pack.Take(b, width, 50)
		if len(rest) != 0 || e != api.OK {
			t.Fatalf("%d: got %v, %d", width, rest, e)
		}
		puts(t, nil, width, l, b, api.OK)
	}
}

// P3.4: what is listed is cut, and what is cut is listed as it was; all else is of another form
func TestListAndCut(t *testing.T) {
	for i, l := range someLists() {
		b, e := pack.List(l)
		if e != api.OK {
			t.Fatalf("%d: got error %d", i, e)
		}
		cuts(t, b, l, api.OK)
	}
	x := uint64(7)
	many := 0
	for range 20000 {
		b := make([]byte, draw(&x)%24)
		for i := range b {
			if draw(&x)%8 == 0 {
				b[i] = byte(draw(&x) % 9)
			}
		}
		l, e := pack.Cut(b)
		if e == api.OK {
			many++
			lists(t, l, b, api.OK)
		} else if e != api.ErrForm || len(l) != 0 {
			t.Errorf("%v: got %v, %d", b, l, e)
		}
	}
	if many < 1000 {
		t.Errorf("%d lists of texts alone", many)
	}
}

// R2: what is handed in stays as it is, and what is told shares nothing with it
func TestWhatIsToldIsNew(t *testing.T) {
	calls := map[string]func(b []byte) ([][]byte, api.Errno){
		"Put":       func(b []byte) ([][]byte, api.Errno) { out, e := pack.Put(b, 2, 1, 2, 3); return [][]byte{out}, e },
		"Put, none": func(b []byte) ([][]byte, api.Errno) { out, e := pack.Put(b, 2); return [][]byte{out}, e },
		"Take":      func(b []byte) ([][]byte, api.Errno) { _, out, e := pack.Take(b, 1, 4); return [][]byte{out}, e },
		"Take, no":  func(b []byte) ([][]byte, api.Errno) { _, out, e := pack.Take(b, 1, 0); return [][]byte{out}, e },
		"List":      func(b []byte) ([][]byte, api.Errno) { out, e := pack.List([][]byte{b}); return [][]byte{out}, e },
		"List, two": func(b []byte) ([][]byte, api.Errno) {
			out, e := pack.List([][]byte{b[:3], b[3:]})
			return [][]byte{out}, e
		},
		"Cut": pack.Cut,
		"Sum": func(b []byte) ([][]byte, api.Errno) { return [][]byte{head(pack.Sum(b))}, api.OK },
	}
	list := behindOneAnother([][]byte{{1, 2, 3}, {}, {4, 5, 6, 7}, {8}})
	for name, call := range calls {
		room := append(bytes.Clone(list), bytes.Repeat([]byte{77}, 100)...)
		b := room[:len(list)] // with room behind it, into which nothing may be written
		before := bytes.Clone(room)
		out, e := call(b)
		if e != api.OK || !bytes.Equal(room, before) {
			t.Errorf("%s: error %d, or what was handed in was changed", name, e)
		}
		want := clones(out)
		clear(room)
		if !slices.EqualFunc(out, want, bytes.Equal) {
			t.Errorf("%s: what was told hangs on what was handed in", name)
		}
		again, _ := call(before[:len(list)])
		for _, a := range again {
			clear(a[:cap(a)])
		}
		if !slices.EqualFunc(out, want, bytes.Equal) {
			t.Errorf("%s: what was told hangs on what was told later", name)
		}
		for i := range out {
			clear(out[i][:cap(out[i])])
			if !slices.EqualFunc(out[i+1:], want[i+1:], bytes.Equal) {
				t.Errorf("%s: texts that were told share their memory", name)
			}
		}
	}
}

func clones(l [][]byte) [][]byte {
	var out [][]byte
	for _, b := range l {
		out = append(out, bytes.Clone(b))
	}
	return out
}

// R2: numbers that are handed on as a list stay as they are, and those that are taken are the caller's own
func TestNumbersAreNew(t *testing.T) {
	l := []int64{1, -2, 3}
	b, e := pack.Put(nil, 2, l...)
	if !slices.Equal(l, []int64{1, -2, 3}) || e != api.OK {
		t.Errorf("got %v, %d", l, e)
	}
	clear(l)
	took, _, _ := pack.Take(b, 2, 3)
	clear(b)
	if !slices.Equal(took, []int64{1, -2, 3}) {
		t.Errorf("got %v", took)
	}
}

// The texts of a text that is cut are the caller's own even where they stand side by side: one that is appended to leaves the next one.
func TestCutTextsStandAlone(t *testing.T) {
	l, e := pack.Cut(behindOneAnother([][]byte{{1}, {2}, {3}}))
	if e != api.OK || len(l) != 3 {
		t.Fatalf("got %v, %d", l, e)
	}
	_ = append(l[0], bytes.Repeat([]byte{9}, 8)...)
	if !slices.EqualFunc(l, [][]byte{{1}, {2}, {3}}, bytes.Equal) {
		t.Errorf("got %v", l)
	}
}
