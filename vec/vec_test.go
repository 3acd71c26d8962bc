package vec_test

import (
	"bytes"
	"encoding/binary"
	"math/big"
	"slices"
	"testing"

	"cuvette/api"
	"cuvette/vec"
)

// of is a vector of so many numbers that are all the same.
func of(many int, x int16) api.Vec {
	return slices.Repeat(api.Vec{x}, many)
}

// with is a vector in which one number is another one.
func with(v api.Vec, at int, x int16) api.Vec {
	out := slices.Clone(v)
	out[at] = x
	return out
}

// draw is a number that hangs on the one ahead of it, so that it is the same in every run.
func draw(x *uint64) uint64 {
	*x = *x*6364136223846793005 + 1442695040888963407
	return *x >> 20
}

// drawn is a vector of so many numbers, some of them the least, or the greatest one.
func drawn(x *uint64, many int) api.Vec {
	v := make(api.Vec, many)
	for i := range v {
		switch draw(x) % 8 {
		case 0:
			v[i] = 32767
		case 1:
			v[i] = -32767
		case 2:
			v[i] = int16(draw(x)%5) - 2
		default:
			v[i] = int16(int64(draw(x)%65535) - 32767)
		}
	}
	return v
}

// some are vectors of each length.
func some(x *uint64) []api.Vec {
	var l []api.Vec
	for many := 1; many <= 64; many++ {
		l = append(l, drawn(x, many), of(many, 0), of(many, 32767), of(many, -32767))
	}
	return l
}

// none are vectors that may not be.
func none() []api.Vec {
	l := []api.Vec{nil, {}, of(65, 0), of(66, 1), of(1000, 5), of(1<<16, 7), of(1<<20, -32768), {-32768}, of(64, -32768), of(65, -32768)}
	for many := 1; many <= 64; many++ {
		l = append(l, with(of(many, 1), 0, -32768), with(of(many, 2), many/2, -32768), with(of(many, 3), many-1, -32768))
	}
	return l
}

// octets are a vector's octets as they are to be.
func octets(v api.Vec) []byte {
	var b []byte
	for _, x := range v {
		b = binary.LittleEndian.AppendUint16(b, uint16(x))
	}
	return b
}

// added is what a sum is to be, of numbers without a bound.
func added(a, b api.Vec, of func(x, y *big.Int) *big.Int) int64 {
	all := new(big.Int)
	for i := range a {
		all.Add(all, of(big.NewInt(int64(a[i])), big.NewInt(int64(b[i]))))
	}
	return all.Int64()
}

func wantDist(a, b api.Vec) int64 {
	return added(a, b, func(x, y *big.Int) *big.Int {
		d := new(big.Int).Sub(x, y)
		return d.Mul(d, d)
	})
}

func wantDot(a, b api.Vec) int64 {
	return added(a, b, func(x, y *big.Int) *big.Int { return new(big.Int).Mul(x, y) })
}

// dist holds what Dist tells against what it is to tell.
func dist(t *testing.T, a, b api.Vec, want int64, wantE api.Errno) {
	t.Helper()
	if d, e := vec.Dist(a, b); d != want || e != wantE {
		t.Errorf("Dist of %d and %d numbers: got %d, %d, want %d, %d", len(a), len(b), d, e, want, wantE)
	}
}

// dot holds what Dot tells against what it is to tell.
func dot(t *testing.T, a, b api.Vec, want int64, wantE api.Errno) {
	t.Helper()
	if d, e := vec.Dot(a, b); d != want || e != wantE {
		t.Errorf("Dot of %d and %d numbers: got %d, %d, want %d, %d", len(a), len(b), d, e, want, wantE)
	}
}

// from holds what From tells against what it is to tell.
func from(t *testing.T, b []byte, want api.Vec, wantE api.Errno) {
	t.Helper()
	if v, e := vec.From(b); !slices.Equal(v, want) || e != wantE {
		t.Errorf("From of %d octets: got %v, %d, want %v, %d", len(b), v, e, want, wantE)
	}
}

// P4.1: of 1 to 64 numbers, none below -32767
func TestCheck(t *testing.T) {
	x := uint64(1)
	for _, v := range some(&x) {
		if e := vec.Check(v); e != api.OK {
			t.Errorf("%v: got error %d", v, e)
		}
	}
	for _, v := range none() {
		if e := vec.Check(v); e != api.ErrArg {
			t.Errorf("%d numbers: got error %d", len(v), e)
		}
	}
	for _, n := range []int16{-32767, -32766, -1, 0, 1, 32766, 32767} {
		if e := vec.Check(api.Vec{n}); e != api.OK {
			t.Errorf("%d: got error %d", n, e)
		}
	}
}

// P4.1: number by number, whatever they are
func TestSame(t *testing.T) {
	x := uint64(2)
	all := append(some(&x), none()...)
	for i, a := range all {
		if !vec.Same(a, slices.Clone(a)) {
			t.Errorf("%d: it is not the same as itself", i)
		}
		for j, b := range all {
			if vec.Same(a, b) != slices.Equal(a, b) {
				t.Errorf("%d, %d: got %t", i, j, !slices.Equal(a, b))
			}
		}
	}
	for _, y := range []struct {
		a, b api.Vec
		want bool
	}{
		{nil, nil, true},
		{nil, api.Vec{}, true}, // R3: without numbers both are the same
		{api.Vec{}, nil, true},
		{nil, api.Vec{0}, false},
		{api.Vec{0}, api.Vec{}, false},
		{api.Vec{1, 2}, api.Vec{1, 2}, true},
		{api.Vec{1, 2}, api.Vec{2, 1}, false},
		{api.Vec{1, 2}, api.Vec{1, 2, 0}, false},
		{api.Vec{1, 2, 3}, api.Vec{1, 2}, false},
		{api.Vec{-32768}, api.Vec{-32768}, true},
		{api.Vec{-32768}, api.Vec{32767}, false},
		{api.Vec{1}, api.Vec{257}, false},
	} {
		if got := vec.Same(y.a, y.b); got != y.want {
			t.Errorf("%v, %v: got %t", y.a, y.b, got)
		}
	}
}

// P4.1: each place counts
func TestSameOfEachPlace(t *testing.T) {
	for many := 1; many <= 64; many++ {
		for i := range many {
			if vec.Same(of(many, 5), with(of(many, 5), i, 6)) || vec.Same(with(of(many, 5), i, -5), of(many, 5)) {
				t.Errorf("%d numbers: place %d does not count", many, i)
			}
		}
	}
}

// P4.1
func TestDistAndDot(t *testing.T) {
	for _, x := range []struct {
		a, b      api.Vec
		dist, dot int64
	}{
		{api.Vec{1, 2}, api.Vec{4, 6}, 25, 16}, // the document's example
		{api.Vec{7}, api.Vec{7}, 0, 49},
		{api.Vec{-3}, api.Vec{4}, 49, -12},
		{api.Vec{1, -2, 3}, api.Vec{-1, 2, -3}, 56, -14},
		{api.Vec{1, 2, 3, 4}, api.Vec{5, 6, 7, 8}, 64, 70},
		{api.Vec{32767}, api.Vec{-32767}, 65534 * 65534, -32767 * 32767},
		{of(64, 32767), of(64, -32767), 64 * 65534 * 65534, -64 * 32767 * 32767},
		{of(64, -32767), of(64, -32767), 0, 64 * 32767 * 32767},
		{of(64, 0), of(64, -32767), 64 * 32767 * 32767, 0},
	} {
		dist(t, x.a, x.b, x.dist, api.OK)
		dist(t, x.b, x.a, x.dist, api.OK)
		dot(t, x.a, x.b, x.dot, api.OK)
		dot(t, x.b, x.a, x.dot, api.OK)
	}
}

// P4.1: of each length, and each place of it
func TestDistAndDotOfAll(t *testing.T) {
	x := uint64(3)
	for many := 1; many <= 64; many++ {
		for i := range many {
			dist(t, of(many, 10), with(of(many, 10), i, 13), 9, api.OK)
			dot(t, of(many, 0), with(of(many, 10), i, 13), 0, api.OK)
			dot(t, with(of(many, 0), i, -7), with(of(many, 10), i, 13), -91, api.OK)
		}
		for range 50 {
			a, b := drawn(&x, many), drawn(&x, many)
			dist(t, a, b, wantDist(a, b), api.OK)
			dot(t, a, b, wantDot(a, b), api.OK)
		}
	}
}

// P4.1: one that may not be, on either side, or on both
func TestDistAndDotErrs(t *testing.T) {
	for _, bad := range none() {
		for _, v := range []api.Vec{{1}, of(64, 1), of(max(1, min(len(bad), 64)), 1), bad} {
			dist(t, bad, v, 0, api.ErrArg)
			dist(t, v, bad, 0, api.ErrArg)
			dot(t, bad, v, 0, api.ErrArg)
			dot(t, v, bad, 0, api.ErrArg)
		}
		// As many numbers, so that just the one that may not be tells.
		dist(t, bad, of(len(bad), 1), 0, api.ErrArg)
		dist(t, of(len(bad), 1), bad, 0, api.ErrArg)
		dot(t, bad, of(len(bad), 1), 0, api.ErrArg)
		dot(t, of(len(bad), 1), bad, 0, api.ErrArg)
	}
}

// P4.1: not as many numbers
func TestDistAndDotOfOtherLengths(t *testing.T) {
	for i := 1; i <= 64; i++ {
		for j := 1; j <= 64; j++ {
			if i != j {
				dist(t, of(i, 1), of(j, 2), 0, api.ErrArg)
				dot(t, of(i, 1), of(j, 2), 0, api.ErrArg)
			}
		}
	}
}

// P4.2: each number in two octets, the lowest one first
func TestBytes(t *testing.T) {
	for _, x := range []struct {
		v    api.Vec
		want []byte
	}{
		{api.Vec{1}, []byte{1, 0}},
		{api.Vec{-2, 258}, []byte{254, 255, 2, 1}},
		{api.Vec{32767, -32767, 0}, []byte{255, 127, 1, 128, 0, 0}},
		{of(64, -1), bytes.Repeat([]byte{255}, 128)},
	} {
		if b, e := vec.Bytes(x.v); !bytes.Equal(b, x.want) || e != api.OK {
			t.Errorf("%v: got %v, %d, want %v", x.v, b, e, x.want)
		}
		from(t, x.want, x.v, api.OK)
	}
	x := uint64(4)
	for _, v := range some(&x) {
		if b, e := vec.Bytes(v); !bytes.Equal(b, octets(v)) || e != api.OK {
			t.Errorf("%v: got %v, %d", v, b, e)
		}
	}
	for _, v := range none() {
		if b, e := vec.Bytes(v); len(b) != 0 || e != api.ErrArg {
			t.Errorf("%d numbers that may not be: got %v, %d", len(v), b, e)
		}
	}
}

// P4.2: all that is not of a vector: too short, too long, half a number, or one of them that may not be
func TestFrom(t *testing.T) {
	x := uint64(5)
	for _, v := range some(&x) {
		from(t, octets(v), v, api.OK)
		from(t, octets(v)[1:], nil, api.ErrForm)
		from(t, append(octets(v), 0), nil, api.ErrForm)
	}
	for _, v := range none() {
		from(t, octets(v), nil, api.ErrForm)
		from(t, append(octets(v), 1), nil, api.ErrForm)
	}
	for _, many := range []int{0, 1, 3, 127, 129, 130, 131, 65535, 65536, 65537, 131072, 131073, 131074, 1 << 20} {
		from(t, make([]byte, many), nil, api.ErrForm)
	}
	from(t, nil, nil, api.ErrForm)
}

// P4.2: each text of two octets but one is of a vector
func TestFromOfTwo(t *testing.T) {
	for n := range 1 << 16 {
		b := []byte{byte(n), byte(n >> 8)}
		if x := int16(uint16(n)); x == -32768 {
			from(t, b, nil, api.ErrForm)
		} else {
			from(t, b, api.Vec{x}, api.OK)
		}
	}
}

// P4.3: from 0 on, below 2^39, 0 just of the same ones, the same both ways; both dots of each with itself, less twice that of both
func TestDistances(t *testing.T) {
	x := uint64(6)
	for many := 1; many <= 64; many++ {
		l := []api.Vec{of(many, 0), of(many, 32767), of(many, -32767), drawn(&x, many), drawn(&x, many)}
		l = append(l, with(l[3], many-1, 4), slices.Clone(l[4]))
		for _, a := range l {
			for _, b := range l {
				d, e := vec.Dist(a, b)
				back, backE := vec.Dist(b, a)
				if e != api.OK || backE != api.OK || d < 0 || d >= 1<<39 || d != back || (d == 0) != vec.Same(a, b) {
					t.Errorf("%v, %v: got %d, %d, back %d, %d", a, b, d, e, back, backE)
				}
				aa, _ := vec.Dot(a, a)
				bb, _ := vec.Dot(b, b)
				ab, _ := vec.Dot(a, b)
				if d != aa+bb-2*ab {
					t.Errorf("%v, %v: got %d, want %d", a, b, d, aa+bb-2*ab)
				}
			}
		}
	}
}

// P4.3: what is written is read, and what is read is written as it was
func TestWrittenIsRead(t *testing.T) {
	x := uint64(7)
	for _, v := range some(&x) {
		b, e := vec.Bytes(v)
		if e != api.OK {
			t.Fatalf("%v: got error %d", v, e)
		}
		from(t, b, v, api.OK)
	}
	read := 0
	for range 20000 {
		b := make([]byte, draw(&x)%136)
		for i := range b {
			b[i] = byte(draw(&x))
		}
		v, e := vec.From(b)
		if e != api.OK {
			continue
		}
		read++
		if again, e := vec.Bytes(v); !bytes.Equal(again, b) || e != api.OK {
			t.Errorf("%v: got %v, %d", b, again, e)
		}
	}
	if read < 5000 {
		t.Errorf("%d were read alone", read)
	}
}

// R2: what is handed in stays as it is, with what is behind it; what is told shares nothing with it
func TestWhatIsToldIsNew(t *testing.T) {
	room := append(api.Vec{1, -2, 3}, 77, 78, 79)
	v := room[:3]
	vec.Check(v)
	vec.Same(v, v)
	vec.Dist(v, v)
	vec.Dot(v, v)
	b, e := vec.Bytes(v)
	if e != api.OK || !slices.Equal(room, api.Vec{1, -2, 3, 77, 78, 79}) {
		t.Fatalf("got %v, %d", room, e)
	}
	clear(room)
	want := []byte{1, 0, 254, 255, 3, 0}
	if !bytes.Equal(b, want) {
		t.Errorf("got %v", b)
	}
	text := append(bytes.Clone(want), 9, 9, 9)
	read, e := vec.From(text[:6])
	if e != api.OK || !bytes.Equal(text, []byte{1, 0, 254, 255, 3, 0, 9, 9, 9}) {
		t.Fatalf("got %v, %d", text, e)
	}
	clear(text)
	if !slices.Equal(read, api.Vec{1, -2, 3}) {
		t.Errorf("got %v", read)
	}
	again, _ := vec.From(want)
	clear(again[:cap(again)])
	if !slices.Equal(read, api.Vec{1, -2, 3}) {
		t.Errorf("got %v: it hangs on what was told later", read)
	}
}
