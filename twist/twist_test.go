package twist_test

import (
	"math"
	"math/big"
	"slices"
	"testing"

	"cuvette/api"
	"cuvette/twist"
	"cuvette/vec"
)

// noWays are numbers that are no ways.
var noWays = []int64{-1, -2, -4, math.MinInt64, math.MinInt64 + 1, -1 << 62, -api.MaxTwist, 1 << 62, 1<<62 + 1, 1<<62 + 5, math.MaxInt64 - 1, math.MaxInt64}

// someWays are the least and the greatest one, each with a single digit, all of the same digit, and some that are drawn.
func someWays(x *uint64) []int64 {
	l := []int64{0, 5, 6, 27, 228, 1 << 31, 1 << 32, 1<<61 - 1, 1<<62 - 2, 1<<62 - 1}
	for place := range 31 {
		for digit := int64(1); digit < 4; digit++ {
			l = append(l, digit<<(2*place))
		}
	}
	for digit := int64(1); digit < 4; digit++ {
		l = append(l, digit*(api.MaxTwist/3))
	}
	for range 40 {
		l = append(l, drawnWay(x))
	}
	return l
}

// of is a vector of so many numbers that are all the same.
func of(many int, x int16) api.Vec {
	return slices.Repeat(api.Vec{x}, many)
}

// rising is a vector of so many numbers: 1, 2, 3 and so on.
func rising(many int) api.Vec {
	v := make(api.Vec, many)
	for i := range v {
		v[i] = int16(i + 1)
	}
	return v
}

// with is a vector in which one number is another one.
func with(v api.Vec, at int, x int16) api.Vec {
	out := slices.Clone(v)
	out[at] = x
	return out
}

// draw is a number that hangs on the one ahead of it, so that it is the same in every run.
func draw(x *uint64) uint64 {
	*x = *x*6364136223846793005 + 1442695040888963407
	return *x >> 20
}

// drawnWay is a way that is drawn.
func drawnWay(x *uint64) int64 {
	return int64((draw(x)<<31 ^ draw(x)) & api.MaxTwist)
}

// drawn is a vector of so many numbers, some of them the least, or the greatest one.
func drawn(x *uint64, many int) api.Vec {
	v := make(api.Vec, many)
	for i := range v {
		switch draw(x) % 8 {
		case 0:
			v[i] = 32767
		case 1:
			v[i] = -32767
		case 2:
			v[i] = int16(draw(x)%5) - 2
		default:
			v[i] = int16(int64(draw(x)%65535) - 32767)
		}
	}
	return v
}

// noVecs are vectors that may not be.
func noVecs() []api.Vec {
	l := []api.Vec{nil, {}, of(65, 0), of(66, 1), of(1000, 5), of(1<<16, 7), {-32768}, {1, -32768}, of(64, -32768), of(65, -32768)}
	for many := 1; many <= 64; many++ {
		l = append(l, with(of(many, 1), 0, -32768), with(of(many, 2), many/2, -32768), with(of(many, 3), many-1, -32768))
	}
	return l
}

// digitsOf are a way's 31 digits, the lowest one first: by its text to the base four.
func digitsOf(way int64) []int {
	out := make([]int, 31)
	text := big.NewInt(way).Text(4)
	for i := range len(text) {
		out[len(text)-1-i] = int(text[i] - '0')
	}
	return out
}

// wayOf is the way of such digits.
func wayOf(digits []int) int64 {
	way := new(big.Int)
	for _, d := range slices.Backward(digits) {
		way.Mul(way, big.NewInt(4))
		way.Add(way, big.NewInt(int64(d)))
	}
	return way.Int64()
}

// wantTurned is what two numbers are to be after so many quarters.
func wantTurned(x, y int16, quarters int) (int16, int16) {
	for range quarters {
		x, y = -y, x
	}
	return x, y
}

// wantTurn is what a vector is to be, turned.
func wantTurn(v api.Vec, way int64) api.Vec {
	out := slices.Clone(v)
	for i, d := range digitsOf(way) {
		if 2*i+1 < len(v) {
			out[2*i], out[2*i+1] = wantTurned(v[2*i], v[2*i+1], d)
		}
	}
	return out
}

func wantBoth(a, b int64) int64 {
	one, other := digitsOf(a), digitsOf(b)
	for i := range one {
		one[i] = (one[i] + other[i]) % 4
	}
	return wayOf(one)
}

func wantNot(way int64) int64 {
	digits := digitsOf(way)
	for i, d := range digits {
		digits[i] = []int{0, 3, 2, 1}[d]
	}
	return wayOf(digits)
}

// turn holds what Turn tells against what it is to tell.
func turn(t *testing.T, v api.Vec, way int64, want api.Vec, wantE api.Errno) {
	t.Helper()
	if got, e := twist.Turn(v, way); !slices.Equal(got, want) || e != wantE {
		t.Errorf("Turn of %d numbers by %d: got %v, %d, want %v, %d", len(v), way, got, e, want, wantE)
	}
}

// back holds what Back tells against what it is to tell.
func back(t *testing.T, v api.Vec, way int64, want api.Vec, wantE api.Errno) {
	t.Helper()
	if got, e := twist.Back(v, way); !slices.Equal(got, want) || e != wantE {
		t.Errorf("Back of %d numbers by %d: got %v, %d, want %v, %d", len(v), way, got, e, want, wantE)
	}
}

// both holds what Both tells against what it is to tell.
func both(t *testing.T, a, b, want int64, wantE api.Errno) {
	t.Helper()
	if got, e := twist.Both(a, b); got != want || e != wantE {
		t.Errorf("Both(%d, %d): got %d, %d, want %d, %d", a, b, got, e, want, wantE)
	}
}

// not holds what Not tells against what it is to tell.
func not(t *testing.T, way, want int64, wantE api.Errno) {
	t.Helper()
	if got, e := twist.Not(way); got != want || e != wantE {
		t.Errorf("Not(%d): got %d, %d, want %d, %d", way, got, e, want, wantE)
	}
}

// isTurned is Turn without an error.
func isTurned(t *testing.T, v api.Vec, way int64) api.Vec {
	t.Helper()
	out, e := twist.Turn(v, way)
	if e != api.OK {
		t.Fatalf("got error %d", e)
	}
	return out
}

// P5.1
func TestTurnAndBack(t *testing.T) {
	for _, x := range []struct {
		v    api.Vec
		way  int64
		want api.Vec
	}{
		{api.Vec{1, 2}, 1, api.Vec{-2, 1}}, // the document's example
		{api.Vec{1, 2}, 0, api.Vec{1, 2}},
		{api.Vec{1, 2}, 2, api.Vec{-1, -2}},
		{api.Vec{1, 2}, 3, api.Vec{2, -1}},
		{api.Vec{1, 2}, 4, api.Vec{1, 2}}, // the next digit, of numbers that are not there
		{api.Vec{1, 2, 3, 4}, 1, api.Vec{-2, 1, 3, 4}},
		{api.Vec{1, 2, 3, 4}, 4, api.Vec{1, 2, -4, 3}},
		{api.Vec{1, 2, 3, 4}, 1 + 3*4, api.Vec{-2, 1, 4, -3}},
		{api.Vec{1, 2, 3, 4, 5, 6}, 3 + 2*4 + 1*16, api.Vec{2, -1, -3, -4, -6, 5}},
		{api.Vec{7}, 1, api.Vec{7}}, // one without another one stays
		{api.Vec{7}, api.MaxTwist, api.Vec{7}},
		{api.Vec{1, 2, 3}, 1 + 1*4, api.Vec{-2, 1, 3}},
		{api.Vec{0, 0}, 3, api.Vec{0, 0}},
		{api.Vec{0, 5}, 1, api.Vec{-5, 0}},
		{api.Vec{32767, -32767}, 1, api.Vec{32767, 32767}},
		{api.Vec{32767, -32767}, 2, api.Vec{-32767, 32767}},
		{api.Vec{-32767, -32767}, 3, api.Vec{-32767, 32767}},
	} {
		turn(t, x.v, x.way, x.want, api.OK)
		back(t, x.want, x.way, x.v, api.OK)
	}
}

// P5.1: each number, by each quarter, on either side
func TestTurnOfEachNumber(t *testing.T) {
	for n := -32767; n <= 32767; n++ {
		x, other := int16(n), int16((n+70000)*40503%65535-32767)
		for quarters := range 4 {
			a, b := wantTurned(x, other, quarters)
			got, e := twist.Turn(api.Vec{x, other, other, x}, int64(quarters+quarters*4))
			c, d := wantTurned(other, x, quarters)
			if !slices.Equal(got, api.Vec{a, b, c, d}) || e != api.OK {
				t.Fatalf("%d, %d by %d quarters: got %v, %d", x, other, quarters, got, e)
			}
			back(t, got, int64(quarters+quarters*4), api.Vec{x, other, other, x}, api.OK)
		}
	}
}

// P5.1: of each length, each digit tells of its own two numbers alone
func TestTurnOfEachPlace(t *testing.T) {
	for many := 1; many <= 64; many++ {
		v := rising(many)
		for place := range 31 {
			for digit := range 4 {
				want := slices.Clone(v)
				if 2*place+1 < many {
					want[2*place], want[2*place+1] = wantTurned(v[2*place], v[2*place+1], digit)
				}
				turn(t, v, int64(digit)<<(2*place), want, api.OK)
				back(t, want, int64(digit)<<(2*place), v, api.OK)
			}
		}
	}
}

// P5.1: more than 62 numbers, and one without another one, stay as they are
func TestWhatStays(t *testing.T) {
	for many := 1; many <= 64; many++ {
		v := rising(many)
		all := isTurned(t, v, api.MaxTwist/3) // by one quarter each
		for i := range v {
			stays := i >= 62 || i == many-1 && many%2 == 1
			if (all[i] == v[i]) != stays {
				t.Errorf("%d numbers: place %d is %d", many, i, all[i])
			}
		}
		back(t, all, api.MaxTwist/3, v, api.OK)
	}
}

// P5.1: of each length, whatever the numbers and the way
func TestTurnAndBackOfAll(t *testing.T) {
	x := uint64(1)
	ways := someWays(&x)
	for many := 1; many <= 64; many++ {
		for _, v := range []api.Vec{drawn(&x, many), of(many, 32767), of(many, -32767), of(many, 0), rising(many)} {
			for _, way := range ways {
				turned := wantTurn(v, way)
				turn(t, v, way, turned, api.OK)
				back(t, turned, way, v, api.OK)
				back(t, v, way, wantTurn(v, wantNot(way)), api.OK)
			}
		}
	}
}

// P5.1: a vector that may not be, a way that is none, or both
func TestTurnAndBackErrs(t *testing.T) {
	for _, bad := range noVecs() {
		for _, way := range append([]int64{0, 1, 5, api.MaxTwist}, noWays...) {
			turn(t, bad, way, nil, api.ErrArg)
			back(t, bad, way, nil, api.ErrArg)
		}
	}
	for _, way := range noWays {
		for many := 1; many <= 64; many++ {
			turn(t, of(many, 1), way, nil, api.ErrArg)
			back(t, of(many, 1), way, nil, api.ErrArg)
		}
	}
}

// P5.2
func TestBothAndNot(t *testing.T) {
	for _, x := range []struct{ a, b, want int64 }{
		{0, 0, 0},
		{1, 2, 3},
		{1, 3, 0}, // around at four: nothing goes over to the next digit
		{3, 3, 2},
		{2, 2, 0},
		{7, 9, 12},
		{15, 1, 12},
		{5, 10, 15},
		{api.MaxTwist, 0, api.MaxTwist},
		{api.MaxTwist, 1, api.MaxTwist - 3},
		{api.MaxTwist, api.MaxTwist, api.MaxTwist / 3 * 2},
		{3 << 60, 1 << 60, 0},
		{2 << 60, 1 << 60, 3 << 60},
	} {
		both(t, x.a, x.b, x.want, api.OK)
		both(t, x.b, x.a, x.want, api.OK)
	}
	for _, x := range [][2]int64{
		{0, 0}, {1, 3}, {2, 2}, {3, 1}, {4, 12}, {5, 15}, {6, 14}, {27, 57},
		{api.MaxTwist, api.MaxTwist / 3}, {api.MaxTwist / 3 * 2, api.MaxTwist / 3 * 2}, {3 << 60, 1 << 60},
	} {
		not(t, x[0], x[1], api.OK)
		not(t, x[1], x[0], api.OK)
	}
}

// P5.2: digit by digit
func TestBothAndNotOfEachDigit(t *testing.T) {
	for place := range 31 {
		for a := range int64(4) {
			for b := range int64(4) {
				both(t, a<<(2*place), b<<(2*place), (a+b)%4<<(2*place), api.OK)
			}
			not(t, a<<(2*place), (4-a)%4<<(2*place), api.OK)
		}
	}
}

// P5.2: what it comes to is the one, and then the other one
func TestBothAndNotOfAll(t *testing.T) {
	x := uint64(2)
	ways := someWays(&x)
	v := drawn(&x, 64)
	for _, a := range ways {
		not(t, a, wantNot(a), api.OK)
		turn(t, isTurned(t, v, a), wantNot(a), v, api.OK)
		for _, b := range ways {
			want := wantBoth(a, b)
			both(t, a, b, want, api.OK)
			turn(t, v, want, isTurned(t, isTurned(t, v, a), b), api.OK)
		}
	}
}

// P5.2: no way on either side, or on both
func TestBothAndNotErrs(t *testing.T) {
	for _, bad := range noWays {
		not(t, bad, 0, api.ErrArg)
		for _, way := range append([]int64{0, 1, api.MaxTwist}, noWays...) {
			both(t, bad, way, 0, api.ErrArg)
			both(t, way, bad, 0, api.ErrArg)
		}
	}
}

// P5.3: two that are turned in one way are as far apart as they were
func TestDistancesStay(t *testing.T) {
	x := uint64(3)
	ways := someWays(&x)
	for many := 1; many <= 64; many++ {
		l := []api.Vec{drawn(&x, many), drawn(&x, many), of(many, 32767), of(many, -32767), of(many, 0)}
		for _, way := range ways {
			for i, a := range l[1:] {
				b := l[i]
				want, _ := vec.Dist(a, b)
				if d, e := vec.Dist(isTurned(t, a, way), isTurned(t, b, way)); d != want || e != api.OK {
					t.Errorf("%v, %v by %d: got %d, %d, want %d", a, b, way, d, e, want)
				}
			}
		}
	}
}

// P5.3: four times turned, or turned back, each is as it was
func TestAsItWas(t *testing.T) {
	x := uint64(4)
	ways := someWays(&x)
	for many := 1; many <= 64; many++ {
		v := drawn(&x, many)
		for _, way := range ways {
			once := isTurned(t, v, way)
			back(t, once, way, v, api.OK)
			thrice := isTurned(t, isTurned(t, once, way), way)
			turn(t, thrice, way, v, api.OK)
			back(t, v, way, thrice, api.OK)
		}
	}
	for _, way := range ways {
		back, e := twist.Not(way)
		if e != api.OK {
			t.Fatalf("%d: got error %d", way, e)
		}
		not(t, back, way, api.OK)
		both(t, way, back, 0, api.OK)
		both(t, wantBoth(way, way), wantBoth(way, way), 0, api.OK)
	}
}

// R2: what is handed in stays as it is, with what is behind it; what is told shares nothing with it, even where nothing is turned
func TestWhatIsToldIsNew(t *testing.T) {
	for name, call := range map[string]func(v api.Vec, way int64) (api.Vec, api.Errno){"Turn": twist.Turn, "Back": twist.Back} {
		for _, way := range []int64{0, 1, 2, 3, 9, api.MaxTwist} {
			room := append(api.Vec{1, -2, 3}, 77, 78, 79)
			before := slices.Clone(room)
			out, e := call(room[:3], way)
			want := slices.Clone(out)
			if e != api.OK || len(out) != 3 || !slices.Equal(room, before) {
				t.Errorf("%s by %d: error %d, or what was handed in was changed", name, way, e)
			}
			clear(room)
			if !slices.Equal(out, want) {
				t.Errorf("%s by %d: what was told hangs on what was handed in", name, way)
			}
			again, _ := call(before[:3], way)
			clear(again[:cap(again)])
			if !slices.Equal(out, want) {
				t.Errorf("%s by %d: what was told hangs on what was told later", name, way)
			}
		}
	}
}
