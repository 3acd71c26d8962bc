package stamp_test

import (
	"bytes"
	"encoding/binary"
	"math"
	"testing"

	"cuvette/api"
	"cuvette/stamp"
)

// noStamps are numbers that are no stamps.
var noStamps = []int64{0, -1, -1 << 62, math.MinInt64, 1<<62 + 1, math.MaxInt64}

// someStamps are the least and the greatest one, some between, and some that differ in a few octets alone.
var someStamps = []int64{1, 2, 255, 256, 257, 1 << 8 * 255, 3145733, 1 << 32, 1<<32 + 1, 0x0102030405060708, 0x0102030405060709, 0x1102030405060708, 1<<56 - 1, 1 << 56, 1<<61 + 1, 1<<62 - 1, 1 << 62}

// sector is one as it is to stand on a disk: a number, 16 octets, and a number.
func sector(head uint64, pay []byte, tail uint64) []byte {
	b := binary.LittleEndian.AppendUint64(nil, head)
	b = append(b, pay...)
	b = append(b, make([]byte, 16-len(pay))...)
	return binary.LittleEndian.AppendUint64(b, tail)
}

// rising is so many octets, from one on, each one greater.
func rising(from byte, many int) []byte {
	b := make([]byte, many)
	for i := range b {
		b[i] = from + byte(i)
	}
	return b
}

// sealed is a sealed sector, without an error.
func sealed(t *testing.T, n int64, pay []byte) []byte {
	t.Helper()
	b, e := stamp.Seal(n, pay)
	if e != api.OK {
		t.Fatalf("got error %d", e)
	}
	return b
}

// opens holds what Open tells against what it is to tell.
func opens(t *testing.T, b []byte, wantN int64, wantPay []byte, wantE api.Errno) {
	t.Helper()
	n, pay, e := stamp.Open(b)
	if n != wantN || !bytes.Equal(pay, wantPay) || e != wantE {
		t.Errorf("%v: got %d, %v, %d, want %d, %v, %d", b, n, pay, e, wantN, wantPay, wantE)
	}
}

// P2.1
func TestSeal(t *testing.T) {
	for _, n := range someStamps {
		for many := range 17 {
			pay := rising(7, many)
			b, e := stamp.Seal(n, pay)
			if want := sector(uint64(n), pay, uint64(n)); !bytes.Equal(b, want) || e != api.OK {
				t.Errorf("%d, %d octets: got %v, %d, want %v", n, many, b, e, want)
			}
		}
	}
	b, e := stamp.Seal(0x0102030405060708, nil)
	want := []byte{8, 7, 6, 5, 4, 3, 2, 1, 0, 0, 0, 0, 0, 0, 0, 0, 0, 0, 0, 0, 0, 0, 0, 0, 8, 7, 6, 5, 4, 3, 2, 1}
	if !bytes.Equal(b, want) || e != api.OK {
		t.Errorf("got %v, %d", b, e)
	}
}

// P2.1: what is no stamp comes ahead of what is too long
func TestSealErrs(t *testing.T) {
	for _, n := range noStamps {
		for _, many := range []int{0, 16, 17, 99} {
			if b, e := stamp.Seal(n, rising(1, many)); len(b) != 0 || e != api.ErrArg {
				t.Errorf("%d, %d octets: got %v, %d", n, many, b, e)
			}
		}
	}
	for _, n := range someStamps {
		for _, many := range []int{17, 18, 32, 1 << 16} {
			if b, e := stamp.Seal(n, make([]byte, many)); len(b) != 0 || e != api.ErrLong {
				t.Errorf("%d, %d octets: got %v, %d", n, many, b, e)
			}
		}
	}
}

// P2.1
func TestOpen(t *testing.T) {
	for _, n := range someStamps {
		for _, pay := range [][]byte{make([]byte, 16), rising(1, 16), rising(250, 16), bytes.Repeat([]byte{255}, 16)} {
			opens(t, sector(uint64(n), pay, uint64(n)), n, pay, api.OK)
		}
		for many := range 17 {
			pay := rising(9, many)
			opens(t, sealed(t, n, pay), n, append(pay, make([]byte, 16-many)...), api.OK)
		}
	}
}

// P2.1: a sector has 32 octets, whatever they are
func TestOpenOfNoSector(t *testing.T) {
	for _, many := range []int{0, 1, 8, 16, 24, 31, 33, 64} {
		opens(t, make([]byte, many), 0, nil, api.ErrArg)
		opens(t, rising(1, many), 0, nil, api.ErrArg)
		opens(t, bytes.Repeat([]byte{1}, many), 0, nil, api.ErrArg)
	}
	opens(t, nil, 0, nil, api.ErrArg)
}

// P2.1: where no stamp was put there is none, whatever stands between
func TestOpenOfNothing(t *testing.T) {
	for _, pay := range [][]byte{nil, rising(1, 16), bytes.Repeat([]byte{255}, 16)} {
		opens(t, sector(0, pay, 0), 0, nil, api.ErrNone)
		for i := range 64 {
			opens(t, sector(1<<i, pay, 0), 0, nil, api.ErrTorn)
			opens(t, sector(0, pay, 1<<i), 0, nil, api.ErrTorn)
		}
	}
}

// P2.1
func TestOpenOfTorn(t *testing.T) {
	pay := rising(3, 16)
	for _, n := range someStamps {
		for i := range 64 {
			opens(t, sector(uint64(n)^1<<i, pay, uint64(n)), 0, nil, api.ErrTorn)
			opens(t, sector(uint64(n), pay, uint64(n)^1<<i), 0, nil, api.ErrTorn)
		}
		for _, other := range noStamps {
			opens(t, sector(uint64(n), pay, uint64(other)), 0, nil, api.ErrTorn)
			opens(t, sector(uint64(other), pay, uint64(n)), 0, nil, api.ErrTorn)
		}
	}
	for _, n := range noStamps[1:] {
		opens(t, sector(uint64(n), pay, uint64(n)), 0, nil, api.ErrTorn)
	}
	opens(t, bytes.Repeat([]byte{255}, 32), 0, nil, api.ErrTorn)
}

// P2.2
func TestMix(t *testing.T) {
	old, fresh := rising(1, 32), rising(101, 32)
	for many := range 33 {
		b, e := stamp.Mix(old, fresh, many)
		want := append(rising(101, many), rising(1+byte(many), 32-many)...)
		if !bytes.Equal(b, want) || e != api.OK {
			t.Errorf("%d: got %v, %d, want %v", many, b, e, want)
		}
	}
}

// P2.2
func TestMixErrs(t *testing.T) {
	for i, x := range []struct{ old, fresh, many int }{
		{0, 32, 0}, {31, 32, 0}, {33, 32, 0}, {31, 32, 32}, {64, 32, 5},
		{32, 0, 0}, {32, 31, 0}, {32, 33, 0}, {32, 31, 32}, {32, 64, 5},
		{0, 0, 0}, {31, 31, 31}, {33, 33, 33},
		{32, 32, -1}, {32, 32, 33}, {32, 32, math.MinInt}, {32, 32, math.MaxInt},
		{31, 33, -1},
	} {
		if b, e := stamp.Mix(rising(1, x.old), rising(101, x.fresh), x.many); len(b) != 0 || e != api.ErrArg {
			t.Errorf("%d: got %v, %d", i, b, e)
		}
	}
	if b, e := stamp.Mix(nil, nil, 0); len(b) != 0 || e != api.ErrArg {
		t.Errorf("got %v, %d", b, e)
	}
}

// P2.3
func TestPairAndPart(t *testing.T) {
	for _, x := range []struct{ gen, at, n int64 }{
		{3, 5, 3145733}, // the document's example
		{1, 0, 1 << 20},
		{1, 1<<20 - 1, 1<<21 - 1},
		{2, 0, 1 << 21},
		{1, 1 << 19, 1<<20 + 1<<19},
		{1 << 39, 1 << 19, 1<<59 + 1<<19},
		{1<<40 - 1, 1<<20 - 1, 1<<60 - 1},
		{1 << 40, 0, 1 << 60},
		{1 << 40, 1<<20 - 1, 1<<60 + 1<<20 - 1},
	} {
		if n, e := stamp.Pair(x.gen, x.at); n != x.n || e != api.OK {
			t.Errorf("Pair(%d, %d): got %d, %d, want %d", x.gen, x.at, n, e, x.n)
		}
		if gen, at, e := stamp.Part(x.n); gen != x.gen || at != x.at || e != api.OK {
			t.Errorf("Part(%d): got %d, %d, %d, want %d, %d", x.n, gen, at, e, x.gen, x.at)
		}
		opens(t, sealed(t, x.n, nil), x.n, make([]byte, 16), api.OK)
	}
}

// P2.3
func TestPairErrs(t *testing.T) {
	noGens := []int64{0, -1, 1<<40 + 1, 1 << 44, math.MinInt64, math.MaxInt64}
	noPlaces := []int64{-1, 1 << 20, 1<<20 + 1, math.MinInt64, math.MaxInt64}
	refused := func(gen, at int64) {
		if n, e := stamp.Pair(gen, at); n != 0 || e != api.ErrArg {
			t.Errorf("%d, %d: got %d, %d", gen, at, n, e)
		}
	}
	for _, gen := range noGens {
		for _, at := range append([]int64{0, 5, 1<<20 - 1}, noPlaces...) {
			refused(gen, at)
		}
	}
	for _, gen := range []int64{1, 3, 1 << 40} {
		for _, at := range noPlaces {
			refused(gen, at)
		}
	}
}

// P2.3: what is no stamp, and a stamp of a generation that is too small, or too great
func TestPartErrs(t *testing.T) {
	small := []int64{1, 5, 1<<20 - 1}
	great := []int64{1<<60 + 1<<20, 1 << 61, 1<<62 - 1, 1 << 62}
	for _, list := range [][]int64{noStamps, small, great, {-1 << 20, -3145733, -1 << 60}} {
		for _, n := range list {
			if gen, at, e := stamp.Part(n); gen != 0 || at != 0 || e != api.ErrArg {
				t.Errorf("%d: got %d, %d, %d", n, gen, at, e)
			}
		}
	}
}

// mixed is a sector that was written in part, without an error.
func mixed(t *testing.T, old, fresh []byte, many int) []byte {
	t.Helper()
	b, e := stamp.Mix(old, fresh, many)
	if e != api.OK {
		t.Fatalf("got error %d", e)
	}
	return b
}

// P2.4: a sealed sector that was written in part over one of another stamp is the one, or the other one, or torn
func TestPartOverAnother(t *testing.T) {
	oldPay, freshPay := rising(50, 16), rising(150, 16)
	for _, was := range someStamps {
		for _, is := range someStamps {
			if was == is {
				continue
			}
			old, fresh := sealed(t, was, oldPay), sealed(t, is, freshPay)
			for many := range 33 {
				b := mixed(t, old, fresh, many)
				n, pay, e := stamp.Open(b)
				isOld := n == was && bytes.Equal(pay, oldPay) && e == api.OK
				isFresh := n == is && bytes.Equal(pay, freshPay) && e == api.OK
				isTorn := n == 0 && len(pay) == 0 && e == api.ErrTorn
				if !isOld && !isFresh && !isTorn {
					t.Errorf("%d octets of %d over %d: got %d, %v, %d", many, is, was, n, pay, e)
				}
				if isOld && !bytes.Equal(b[:24], old[:24]) || isFresh && !bytes.Equal(b, fresh) {
					t.Errorf("%d octets of %d over %d: %v opens as another one", many, is, was, b)
				}
			}
			opens(t, mixed(t, old, fresh, 0), was, oldPay, api.OK)
			opens(t, mixed(t, old, fresh, 16), 0, nil, api.ErrTorn)
			opens(t, mixed(t, old, fresh, 32), is, freshPay, api.OK)
		}
	}
}

// P2.4: what opens with the new one's stamp is the new one, whatever octets were there, unless they end with that stamp
func TestPartOverAnything(t *testing.T) {
	pay := rising(150, 16)
	for _, n := range someStamps {
		fresh := sealed(t, n, pay)
		for _, old := range [][]byte{
			make([]byte, 32),
			bytes.Repeat([]byte{255}, 32),
			rising(1, 32),
			sector(uint64(n), rising(50, 16), 0),
			sector(uint64(n), rising(50, 16), uint64(n)^1),
			sector(uint64(n), rising(50, 16), uint64(n)^1<<63),
			sector(0, rising(50, 16), uint64(n)^1<<7),
		} {
			for many := range 33 {
				b := mixed(t, old, fresh, many)
				got, what, e := stamp.Open(b)
				if e == api.OK && got == n && (!bytes.Equal(b, fresh) || !bytes.Equal(what, pay)) {
					t.Errorf("%d octets of %v over %v: got %d, %v", many, fresh, old, got, what)
				}
			}
			opens(t, mixed(t, old, fresh, 32), n, pay, api.OK)
		}
	}
}

// The document's example: a sealed sector of which one half was written over is torn.
func TestExample(t *testing.T) {
	old, fresh := sealed(t, 3145733, rising(1, 16)), sealed(t, 3145734, rising(2, 9))
	opens(t, mixed(t, old, fresh, api.Sector/2), 0, nil, api.ErrTorn)
}

// R2: what is handed in stays as it is, and what is told shares nothing with it
func TestWhatIsToldIsNew(t *testing.T) {
	calls := map[string]func(a, b []byte) ([]byte, api.Errno){
		"Seal":     func(a, _ []byte) ([]byte, api.Errno) { return stamp.Seal(5, a[8:24]) },
		"Seal, a":  func(a, _ []byte) ([]byte, api.Errno) { return stamp.Seal(5, a[:3]) },
		"Open":     func(a, _ []byte) ([]byte, api.Errno) { _, b, e := stamp.Open(a); return b, e },
		"Mix, all": func(a, b []byte) ([]byte, api.Errno) { return stamp.Mix(a, b, 32) },
		"Mix, few": func(a, b []byte) ([]byte, api.Errno) { return stamp.Mix(a, b, 9) },
		"Mix, no":  func(a, b []byte) ([]byte, api.Errno) { return stamp.Mix(a, b, 0) },
	}
	for name, call := range calls {
		behind := bytes.Repeat([]byte{77}, 40)
		a := append(sector(5, rising(1, 16), 5), behind...)[:32] // with room behind it, into which nothing may be written
		b := append(sector(6, rising(101, 16), 6), behind...)[:32]
		beforeA, beforeB := bytes.Clone(a[:72]), bytes.Clone(b[:72])
		out, e := call(a, b)
		want := bytes.Clone(out)
		if e != api.OK || !bytes.Equal(a[:72], beforeA) || !bytes.Equal(b[:72], beforeB) {
			t.Errorf("%s: error %d, or what was handed in was changed", name, e)
		}
		clear(a)
		clear(b)
		if !bytes.Equal(out, want) {
			t.Errorf("%s: what was told hangs on what was handed in", name)
		}
		again, _ := call(beforeA[:32], beforeB[:32])
		clear(again[:cap(again)])
		if !bytes.Equal(out, want) {
			t.Errorf("%s: what was told hangs on what was told later", name)
		}
	}
}
