package rank_test

import (
	"math"
	"slices"
	"testing"

	"cuvette/api"
	"cuvette/rank"
)

// of is a list of so many numbers that are all the same.
func of(many int, x int16) []int16 {
	return slices.Repeat([]int16{x}, many)
}

// rising is a list of so many numbers, each so much above the one ahead.
func rising(many, from, by int) []int16 {
	l := make([]int16, many)
	for i := range l {
		l[i] = int16(from + i*by)
	}
	return l
}

// with is a list in which one number is another one.
func with(l []int16, at int, x int16) []int16 {
	out := slices.Clone(l)
	out[at] = x
	return out
}

// draw is a number that hangs on the one ahead of it, so that it is the same in every run.
func draw(x *uint64) uint64 {
	*x = *x*6364136223846793005 + 1442695040888963407
	return *x >> 20
}

// drawn is a list of so many numbers, some of them the least, or the greatest one, or there more than once.
func drawn(x *uint64, many int) []int16 {
	l := make([]int16, many)
	for i := range l {
		switch draw(x) % 8 {
		case 0:
			l[i] = 32767
		case 1:
			l[i] = -32767
		case 2, 3:
			l[i] = int16(draw(x)%5) - 2
		default:
			l[i] = int16(int64(draw(x)%65535) - 32767)
		}
	}
	return l
}

// different is a list of so many numbers, no two of them the same, in an order that is drawn.
func different(x *uint64, many int) []int16 {
	by := 65534 / max(many-1, 1)
	l := rising(many, -32767, min(by, 1+int(draw(x)%uint64(by))))
	for i := range l {
		j := i + int(draw(x)%uint64(many-i))
		l[i], l[j] = l[j], l[i]
	}
	return l
}

// someLists are lists of many lengths: none longer than 4096.
func someLists(x *uint64) [][]int16 {
	l := [][]int16{{1, 5, 9, 3}, {32767}, {-32767}, {32767, -32767}, rising(4096, -2000, 1), of(4096, -7), rising(16, 15, -1), rising(17, 0, -3)}
	for _, many := range []int{1, 2, 3, 4, 5, 7, 8, 15, 16, 17, 31, 33, 64, 100, 255, 1000, 4095, 4096} {
		l = append(l, drawn(x, many), drawn(x, many), different(x, many), of(many, 3))
	}
	return l
}

// someCuts are cuts that may be, of each length.
func someCuts(x *uint64) [][]int16 {
	l := [][]int16{nil, {}, {-32767}, {32767}, {0}, {5}, {-32767, 32767}, {-32766}, {-32767, -32767}, {32767, 32767}, {3, 3, 4, 4, 5}, {-1, 0, 1}}
	for many := 1; many <= 15; many++ {
		l = append(l, of(many, 0), of(many, 32767), of(many, -32767), rising(many, -7, 1), rising(many, -32767, 4681), rising(many, 32767-4*(many-1), 4))
		for range 3 {
			cuts := drawn(x, many)
			slices.Sort(cuts)
			l = append(l, cuts)
		}
	}
	return l
}

// noCuts are cuts that may not be: too many, of something that is no number, or falling.
func noCuts() [][]int16 {
	l := [][]int16{of(16, 0), of(17, 5), rising(16, 0, 1), of(4096, 1), of(1<<16, 2), {-32768}, {-32768, 0}, {0, -32768}, {1, 0}, {32767, -32767}, {0, 1, 0}, {3, 2, 1}, of(16, -32768)}
	for many := 1; many <= 15; many++ {
		l = append(l, with(rising(many, 0, 1), 0, -32768), with(rising(many, 0, 1), many-1, -32768), of(many, -32768))
		for at := 1; at < many; at++ {
			l = append(l, with(rising(many, 5, 1), at, int16(5+at-2)))
		}
	}
	return l
}

// probes are numbers at, and beside, each cut, and at both ends.
func probes(cuts []int16) []int16 {
	l := []int16{-32767, -32766, -1, 0, 1, 32766, 32767}
	for _, c := range cuts {
		for n := int(c) - 2; n <= int(c)+2; n++ {
			if n >= -32767 && n <= 32767 {
				l = append(l, int16(n))
			}
		}
	}
	return l
}

// wantCuts are the cuts as they are to be: of each the number that has as many ahead of it as are told.
func wantCuts(l []int16, cells int) []int16 {
	var out []int16
	for i := 1; i < cells; i++ {
		at := int(math.Floor(float64(i*len(l)) / float64(cells)))
		out = append(out, nth(l, at))
	}
	return out
}

// nth is the number of a list at a place, in order: it is found by counting which are below it, and which are no more.
func nth(l []int16, at int) int16 {
	low, high := -32767, 32767
	for low < high {
		half := (low + high + 65536) / 2
		half -= 32768
		if atMost(l, half) > at {
			high = half
		} else {
			low = half + 1
		}
	}
	return int16(low)
}

// atMost is how many of a list are no more than a number.
func atMost(l []int16, x int) int {
	many := 0
	for _, y := range l {
		if int(y) <= x {
			many++
		}
	}
	return many
}

// wantCount is how many of a list are in each cell.
func wantCount(cuts, l []int16) []int {
	out := make([]int, len(cuts)+1)
	for _, x := range l {
		out[atMost(cuts, int(x))]++
	}
	return out
}

// wantSpan are a cell's least and greatest number, and whether there are any: all numbers are tried.
func wantSpan(cuts []int16, cell int) (int16, int16, api.Errno) {
	low, high, e := int16(0), int16(0), api.ErrNone
	for x := -32767; x <= 32767; x++ {
		if atMost(cuts, x) != cell {
			continue
		}
		if e != api.OK {
			low, e = int16(x), api.OK
		}
		high = int16(x)
	}
	return low, high, e
}

// cuts holds what Cuts tells against what it is to tell.
func cuts(t *testing.T, l []int16, cells int, want []int16, wantE api.Errno) {
	t.Helper()
	if got, e := rank.Cuts(l, cells); !slices.Equal(got, want) || e != wantE {
		t.Errorf("Cuts of %d numbers in %d cells: got %v, %d, want %v, %d", len(l), cells, got, e, want, wantE)
	}
}

// cell holds what Cell tells against what it is to tell.
func cell(t *testing.T, l []int16, x int16, want int, wantE api.Errno) {
	t.Helper()
	if got, e := rank.Cell(l, x); got != want || e != wantE {
		t.Errorf("Cell of %d by %v: got %d, %d, want %d, %d", x, l, got, e, want, wantE)
	}
}

// span holds what Span tells against what it is to tell.
func span(t *testing.T, l []int16, cell int, wantLow, wantHigh int16, wantE api.Errno) {
	t.Helper()
	if low, high, e := rank.Span(l, cell); low != wantLow || high != wantHigh || e != wantE {
		t.Errorf("Span of cell %d of %v: got %d, %d, %d, want %d, %d, %d", cell, l, low, high, e, wantLow, wantHigh, wantE)
	}
}

// count holds what Count tells against what it is to tell.
func count(t *testing.T, l, of []int16, want []int, wantE api.Errno) {
	t.Helper()
	if got, e := rank.Count(l, of); !slices.Equal(got, want) || e != wantE {
		t.Errorf("Count of %d numbers by %v: got %v, %d, want %v, %d", len(of), l, got, e, want, wantE)
	}
}

// P6.1: the document's example, and what can be worked out by hand
func TestCuts(t *testing.T) {
	for _, x := range []struct {
		l     []int16
		cells int
		want  []int16
	}{
		{[]int16{1, 5, 9, 3}, 2, []int16{5}}, // the document's example
		{[]int16{1, 5, 9, 3}, 1, nil},
		{[]int16{1, 5, 9, 3}, 3, []int16{3, 5}}, // 4/3, and 8/3, down
		{[]int16{1, 5, 9, 3}, 4, []int16{3, 5, 9}},
		{[]int16{1, 5, 9, 3}, 5, []int16{1, 3, 5, 9}}, // there are more cells than numbers
		{[]int16{1, 5, 9, 3}, 8, []int16{1, 3, 3, 5, 5, 9, 9}},
		{[]int16{7}, 1, nil},
		{[]int16{7}, 2, []int16{7}},
		{[]int16{7}, 16, of(15, 7)},
		{[]int16{2, 1}, 2, []int16{2}},
		{[]int16{2, 1}, 3, []int16{1, 2}},
		{[]int16{3, 1, 2}, 2, []int16{2}},
		{[]int16{4, 4, 4, 1}, 2, []int16{4}},
		{[]int16{4, 1, 1, 1}, 2, []int16{1}},
		{[]int16{32767, -32767}, 4, []int16{-32767, 32767, 32767}},
		{[]int16{-1, -2, -3, -4}, 2, []int16{-2}},
		{rising(16, 15, -1), 16, rising(15, 1, 1)},
		{rising(4096, 0, 1), 16, rising(15, 256, 256)},
		{rising(4096, 0, 1), 3, []int16{1365, 2730}},
	} {
		cuts(t, x.l, x.cells, x.want, api.OK)
	}
}

// P6.1: of each length, and of each number of cells; what is told may be
func TestCutsOfAll(t *testing.T) {
	x := uint64(1)
	for _, l := range someLists(&x) {
		for cells := 1; cells <= 16; cells++ {
			cuts(t, l, cells, wantCuts(l, cells), api.OK)
			if got, _ := rank.Cuts(l, cells); rank.Check(got) != api.OK {
				t.Errorf("%v may not be", got)
			}
		}
	}
}

// P6.1: the cuts do not hang on the order
func TestCutsOfEachOrder(t *testing.T) {
	l := []int16{4, 4, -1, 9}
	for a := range 4 {
		for b := range 4 {
			for c := range 4 {
				order := []int{a, b, c, 6 - a - b - c}
				if !slices.Equal(slices.Sorted(slices.Values(order)), []int{0, 1, 2, 3}) {
					continue
				}
				cuts(t, []int16{l[order[0]], l[order[1]], l[order[2]], l[order[3]]}, 4, []int16{4, 4, 9}, api.OK)
			}
		}
	}
}

// P6.1: too many numbers are told first, then what may not be, and then that there are none
func TestCutsErrs(t *testing.T) {
	noCells := []int{0, -1, 17, 18, 1000, -1000, math.MaxInt, math.MinInt, 1<<32 + 1, -1<<63 + 2}
	for _, cells := range append([]int{1, 2, 15, 16}, noCells...) {
		for _, many := range []int{4097, 4098, 5000, 1 << 16, 1 << 20} {
			cuts(t, of(many, 1), cells, nil, api.ErrLong)
			cuts(t, of(many, -32768), cells, nil, api.ErrLong)
		}
	}
	for _, cells := range noCells {
		for _, l := range [][]int16{nil, {}, {1}, {1, 2}, {-32768}, of(4096, 1), of(4096, -32768)} {
			cuts(t, l, cells, nil, api.ErrArg)
		}
	}
	for cells := 1; cells <= 16; cells++ {
		cuts(t, nil, cells, nil, api.ErrNone)
		cuts(t, []int16{}, cells, nil, api.ErrNone)
		for _, many := range []int{1, 2, 3, 17, 4096} {
			for _, at := range []int{0, many / 2, many - 1} {
				cuts(t, with(of(many, 1), at, -32768), cells, nil, api.ErrArg)
			}
		}
	}
}

// P6.1
func TestCheck(t *testing.T) {
	x := uint64(2)
	for _, l := range someCuts(&x) {
		if e := rank.Check(l); e != api.OK {
			t.Errorf("%v: got error %d", l, e)
		}
	}
	for _, l := range noCuts() {
		if e := rank.Check(l); e != api.ErrArg {
			t.Errorf("%d cuts: got error %d", len(l), e)
		}
	}
}

// P6.2
func TestCell(t *testing.T) {
	for _, x := range []struct {
		cuts []int16
		x    int16
		want int
	}{
		{nil, 5, 0},
		{nil, -32767, 0},
		{nil, 32767, 0},
		{[]int16{5}, 4, 0},
		{[]int16{5}, 5, 1}, // the cut itself is in the cell behind it
		{[]int16{5}, 6, 1},
		{[]int16{5, 5}, 5, 2},
		{[]int16{5, 5}, 4, 0},
		{[]int16{-3, 5, 9}, -4, 0},
		{[]int16{-3, 5, 9}, -3, 1},
		{[]int16{-3, 5, 9}, 8, 2},
		{[]int16{-3, 5, 9}, 9, 3},
		{[]int16{-32767}, -32767, 1},
		{[]int16{32767}, 32767, 1},
		{[]int16{32767}, 32766, 0},
		{of(15, 0), 0, 15},
		{of(15, 0), -1, 0},
		{rising(15, 1, 1), 15, 15},
		{rising(15, 1, 1), 0, 0},
	} {
		cell(t, x.cuts, x.x, x.want, api.OK)
	}
	x := uint64(3)
	for _, l := range someCuts(&x) {
		for _, n := range append(probes(l), drawn(&x, 20)...) {
			cell(t, l, n, atMost(l, int(n)), api.OK)
		}
	}
}

// P6.2: each number, by some cuts
func TestCellOfEachNumber(t *testing.T) {
	l := []int16{-32767, -32766, -300, -300, -1, 0, 0, 0, 1, 77, 5000, 5001, 32766, 32767, 32767}
	for n := -32767; n <= 32767; n++ {
		cell(t, l, int16(n), atMost(l, n), api.OK)
	}
}

// P6.2: cuts that may not be, something that is no number, or both
func TestCellErrs(t *testing.T) {
	x := uint64(4)
	for _, l := range noCuts() {
		for _, n := range []int16{0, 1, -32767, 32767, -32768} {
			cell(t, l, n, 0, api.ErrArg)
		}
	}
	for _, l := range someCuts(&x) {
		cell(t, l, -32768, 0, api.ErrArg)
	}
}

// P6.2
func TestSpan(t *testing.T) {
	for _, x := range []struct {
		cuts      []int16
		cell      int
		low, high int16
		e         api.Errno
	}{
		{nil, 0, -32767, 32767, api.OK},
		{[]int16{5}, 0, -32767, 4, api.OK},
		{[]int16{5}, 1, 5, 32767, api.OK},
		{[]int16{-3, 5}, 1, -3, 4, api.OK},
		{[]int16{5, 6}, 1, 5, 5, api.OK},
		{[]int16{5, 5}, 1, 0, 0, api.ErrNone}, // between two cuts that are the same there is none
		{[]int16{5, 5}, 0, -32767, 4, api.OK},
		{[]int16{5, 5}, 2, 5, 32767, api.OK},
		{[]int16{-32767}, 0, 0, 0, api.ErrNone}, // below the least number there is none
		{[]int16{-32767}, 1, -32767, 32767, api.OK},
		{[]int16{-32767, -32767}, 0, 0, 0, api.ErrNone},
		{[]int16{-32767, -32767}, 1, 0, 0, api.ErrNone},
		{[]int16{-32767, -32767}, 2, -32767, 32767, api.OK},
		{[]int16{-32766}, 0, -32767, -32767, api.OK},
		{[]int16{32767}, 0, -32767, 32766, api.OK},
		{[]int16{32767}, 1, 32767, 32767, api.OK},
		{[]int16{32767, 32767}, 1, 0, 0, api.ErrNone},
		{[]int16{32767, 32767}, 2, 32767, 32767, api.OK},
		{[]int16{-32767, 32767}, 1, -32767, 32766, api.OK},
	} {
		span(t, x.cuts, x.cell, x.low, x.high, x.e)
	}
	x := uint64(5)
	for _, l := range someCuts(&x) {
		for i := range len(l) + 1 {
			low, high, e := wantSpan(l, i)
			span(t, l, i, low, high, e)
		}
	}
}

// P6.2: cuts that may not be, no such cell, or both
func TestSpanErrs(t *testing.T) {
	x := uint64(6)
	for _, l := range noCuts() {
		for _, i := range []int{0, 1, 2, len(l), len(l) + 1, -1, math.MaxInt, math.MinInt} {
			span(t, l, i, 0, 0, api.ErrArg)
		}
	}
	for _, l := range someCuts(&x) {
		for _, i := range []int{-1, -2, len(l) + 1, len(l) + 2, 17, 1000, math.MaxInt, math.MinInt, 1 << 32, -1 << 32} {
			span(t, l, i, 0, 0, api.ErrArg)
		}
	}
}

// P6.3
func TestCount(t *testing.T) {
	for _, x := range []struct {
		cuts, l []int16
		want    []int
	}{
		{[]int16{5}, []int16{1, 5, 9, 3}, []int{2, 2}},
		{nil, nil, []int{0}},
		{nil, []int16{1, 5, 9, 3}, []int{4}},
		{[]int16{5}, nil, []int{0, 0}},
		{[]int16{5}, []int16{}, []int{0, 0}},
		{[]int16{5, 5}, []int16{4, 5, 6}, []int{1, 0, 2}},
		{[]int16{-32767}, []int16{-32767, 32767}, []int{0, 2}},
		{[]int16{32767}, []int16{-32767, 32767}, []int{1, 1}},
		{of(15, 0), nil, make([]int, 16)},
		{rising(15, 256, 256), rising(4096, 0, 1), slices.Repeat([]int{256}, 16)},
		{nil, of(4096, 9), []int{4096}},
	} {
		count(t, x.cuts, x.l, x.want, api.OK)
	}
	x := uint64(7)
	lists := append(someLists(&x), nil)
	for _, l := range someCuts(&x) {
		for _, of := range lists {
			count(t, l, of, wantCount(l, of), api.OK)
		}
	}
}

// P6.3: too many numbers are told first, then cuts that may not be, or something that is no number
func TestCountErrs(t *testing.T) {
	x := uint64(8)
	all := append(noCuts(), someCuts(&x)...)
	for _, l := range all {
		for _, many := range []int{4097, 4098, 1 << 16} {
			count(t, l, of(many, 1), nil, api.ErrLong)
			count(t, l, of(many, -32768), nil, api.ErrLong)
		}
		for _, many := range []int{1, 2, 3, 4096} {
			for _, at := range []int{0, many / 2, many - 1} {
				count(t, l, with(of(many, 1), at, -32768), nil, api.ErrArg)
			}
		}
	}
	for _, l := range noCuts() {
		for _, of := range [][]int16{nil, {}, {0}, of(4096, 1)} {
			count(t, l, of, nil, api.ErrArg)
		}
	}
}

// P6.4: a number is in the span of its cell, and of no other one
func TestInOneSpan(t *testing.T) {
	x := uint64(9)
	for _, l := range someCuts(&x) {
		for _, n := range append(probes(l), drawn(&x, 20)...) {
			of, _ := rank.Cell(l, n)
			for i := range len(l) + 1 {
				low, high, e := rank.Span(l, i)
				if in := e == api.OK && low <= n && n <= high; in != (i == of) {
					t.Errorf("%d by %v: it is in cell %d, and in the span of %d: %t", n, l, of, i, in)
				}
			}
		}
	}
}

// P6.4: cells rise with numbers
func TestCellsRise(t *testing.T) {
	x := uint64(10)
	for _, l := range someCuts(&x) {
		last := 0
		for _, n := range slices.Sorted(slices.Values(append(probes(l), drawn(&x, 100)...))) {
			i, e := rank.Cell(l, n)
			if i < last || i > len(l) || e != api.OK {
				t.Errorf("%d by %v: got %d, %d, behind %d", n, l, i, e, last)
			}
			last = i
		}
	}
}

// P6.4: of numbers that are all different the parts are as many, or one apart
func TestPartsAreAsMany(t *testing.T) {
	x := uint64(11)
	for _, many := range []int{1, 2, 3, 5, 8, 13, 15, 16, 17, 31, 32, 33, 47, 100, 127, 500, 1023, 4095, 4096} {
		for range 3 {
			l := different(&x, many)
			for cells := 1; cells <= 16; cells++ {
				at, _ := rank.Cuts(l, cells)
				parts, e := rank.Count(at, l)
				if e != api.OK || len(parts) != cells || slices.Max(parts)-slices.Min(parts) > 1 {
					t.Errorf("%d numbers in %d cells: got %v, %d", many, cells, parts, e)
				}
			}
		}
	}
}

// R2: what is handed in stays, with the room behind it, and what is told is the caller's own
func TestOwn(t *testing.T) {
	room := []int16{9, 1, 5, 3, 77, 78}
	l := room[:4]
	first, _ := rank.Cuts(l, 3)
	again, _ := rank.Cuts(l, 3)
	clear(first[:cap(first)])
	if !slices.Equal(again, []int16{3, 5}) || !slices.Equal(room, []int16{9, 1, 5, 3, 77, 78}) {
		t.Errorf("got %v, and %v is left", again, room)
	}
	clear(room)
	if !slices.Equal(again, []int16{3, 5}) {
		t.Errorf("got %v", again)
	}
	behind := []int16{3, 5, 77, 78}
	at := behind[:2]
	of := []int16{9, 1, 5, 3}
	one, _ := rank.Count(at, of)
	other, _ := rank.Count(at, of)
	clear(one[:cap(one)])
	rank.Check(at)
	rank.Cell(at, 4)
	rank.Span(at, 1)
	if !slices.Equal(other, []int{1, 1, 2}) || !slices.Equal(behind, []int16{3, 5, 77, 78}) || !slices.Equal(of, []int16{9, 1, 5, 3}) {
		t.Errorf("got %v, and %v, %v are left", other, behind, of)
	}
}
