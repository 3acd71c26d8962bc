package disk_test

import (
	"bytes"
	"math"
	"slices"
	"testing"

	"cuvette/api"
	"cuvette/disk"
)

// octets is a sector of one octet over and over.
func octets(c byte) []byte { return bytes.Repeat([]byte{c}, api.Sector) }

// wet is a disk of two sectors of ones, with a write to the first one, and two to the second one, not flushed.
func wet() api.Disk {
	return api.Disk{
		Dry:  append(octets(1), octets(1)...),
		Wet:  []api.Write{{At: 0, B: octets(2)}, {At: 1, B: octets(3)}, {At: 1, B: octets(4)}},
		Fuse: api.NoFuse,
	}
}

// with is the wet disk, changed.
func with(change func(d *api.Disk)) api.Disk {
	d := wet()
	change(&d)
	return d
}

// copyOf shares nothing with the disk that it is a copy of.
func copyOf(d api.Disk) api.Disk {
	out := d
	out.Dry = bytes.Clone(d.Dry)
	out.Wet = nil
	for _, w := range d.Wet {
		out.Wet = append(out.Wet, api.Write{At: w.At, B: bytes.Clone(w.B)})
	}
	return out
}

// told holds what a call told against what it is to tell, part by part, without disk.Same.
func told(t *testing.T, what string, got api.Disk, e api.Errno, want api.Disk, wantE api.Errno) {
	t.Helper()
	if e != wantE {
		t.Errorf("%s: got error %d, want %d", what, e, wantE)
	}
	if got.Fuse != want.Fuse || got.Dead != want.Dead {
		t.Errorf("%s: got fuse %d, dead %t, want %d, %t", what, got.Fuse, got.Dead, want.Fuse, want.Dead)
	}
	if !bytes.Equal(got.Dry, want.Dry) {
		t.Errorf("%s: got dry %v, want %v", what, got.Dry, want.Dry)
	}
	if !slices.EqualFunc(got.Wet, want.Wet, func(a, b api.Write) bool { return a.At == b.At && bytes.Equal(a.B, b.B) }) {
		t.Errorf("%s: got wet %v, want %v", what, got.Wet, want.Wet)
	}
}

// calls are all that a disk is told of, with what may be handed in beside it.
func calls() map[string]func(d api.Disk) (api.Disk, api.Errno) {
	return map[string]func(d api.Disk) (api.Disk, api.Errno){
		"Lit":   func(d api.Disk) (api.Disk, api.Errno) { return disk.Lit(d, 7) },
		"Write": func(d api.Disk) (api.Disk, api.Errno) { return disk.Write(d, 0, octets(9)) },
		"Flush": disk.Flush,
		"Crash": func(d api.Disk) (api.Disk, api.Errno) { return disk.Crash(d, []byte{32, 5}) },
	}
}

// P1.1
func TestNew(t *testing.T) {
	for _, n := range []int{1, 2, api.MaxSectors - 1, api.MaxSectors} {
		d, e := disk.New(n)
		told(t, "New", d, e, api.Disk{Dry: make([]byte, n*32), Fuse: -1}, api.OK)
	}
	for _, n := range []int{0, -1, api.MaxSectors + 1, math.MinInt, math.MaxInt} {
		d, e := disk.New(n)
		told(t, "New", d, e, api.Disk{}, api.ErrArg)
	}
}

// P1.1
func TestCheckOfWhatMayBe(t *testing.T) {
	most := api.Disk{Dry: make([]byte, 8192*32), Wet: slices.Repeat([]api.Write{{At: 8191, B: octets(1)}}, 8192), Fuse: 1 << 30}
	for i, d := range []api.Disk{
		wet(),
		most,
		{Dry: octets(0)},
		{Dry: octets(0), Fuse: -1, Dead: true},
		{Dry: octets(0), Fuse: 5, Dead: true},
		with(func(d *api.Disk) { d.Wet[2].At = 0 }),
	} {
		if e := disk.Check(d); e != api.OK {
			t.Errorf("%d: got %d", i, e)
		}
	}
}

// mayNot are disks that may not be.
func mayNot() []api.Disk {
	return []api.Disk{
		{},
		{Fuse: -1},
		with(func(d *api.Disk) { d.Dry = nil; d.Wet = nil }),
		with(func(d *api.Disk) { d.Dry = d.Dry[1:] }),
		with(func(d *api.Disk) { d.Dry = append(d.Dry, 0) }),
		with(func(d *api.Disk) { d.Dry = d.Dry[:31]; d.Wet = nil }),
		with(func(d *api.Disk) { d.Dry = make([]byte, 8193*32) }),
		with(func(d *api.Disk) { d.Wet = slices.Repeat(d.Wet[:1], 8193) }),
		with(func(d *api.Disk) { d.Wet[0].B = nil }),
		with(func(d *api.Disk) { d.Wet[1].B = d.Wet[1].B[1:] }),
		with(func(d *api.Disk) { d.Wet[2].B = append(d.Wet[2].B, 4) }),
		with(func(d *api.Disk) { d.Wet[0].At = -1 }),
		with(func(d *api.Disk) { d.Wet[2].At = 2 }),
		with(func(d *api.Disk) { d.Wet[2].At = math.MaxInt }),
		with(func(d *api.Disk) { d.Wet[2].At = math.MinInt }),
		with(func(d *api.Disk) { d.Fuse = -2 }),
		with(func(d *api.Disk) { d.Fuse = math.MinInt }),
		with(func(d *api.Disk) { d.Fuse = 1<<30 + 1 }),
		with(func(d *api.Disk) { d.Fuse = math.MaxInt; d.Dead = true }),
		with(func(d *api.Disk) { d.Fuse = -2; d.Dead = true }),
	}
}

// P1.1, and that a disk that may not be is ErrArg ahead of all else
func TestCheckOfWhatMayNotBe(t *testing.T) {
	for i, d := range mayNot() {
		if e := disk.Check(d); e != api.ErrArg {
			t.Errorf("%d: Check: got %d", i, e)
		}
		for name, call := range calls() {
			out, e := call(d)
			told(t, name, out, e, api.Disk{}, api.ErrArg)
		}
		out, e := disk.Write(d, -1, nil)
		told(t, "Write", out, e, api.Disk{}, api.ErrArg)
		if b, e := disk.Read(d, -1); len(b) != 0 || e != api.ErrArg {
			t.Errorf("%d: Read: got %v, %d", i, b, e)
		}
	}
}

// P1.1
func TestSame(t *testing.T) {
	if !disk.Same(wet(), wet()) || !disk.Same(api.Disk{}, api.Disk{Dry: []byte{}, Wet: []api.Write{}}) {
		t.Error("the same ones are not told to be")
	}
	if !disk.Same(api.Disk{Wet: []api.Write{{}}}, api.Disk{Wet: []api.Write{{B: []byte{}}}}) {
		t.Error("a write of no octets is not the same as one of none")
	}
	for i, d := range []api.Disk{
		{},
		with(func(d *api.Disk) { d.Dry[63]++ }),
		with(func(d *api.Disk) { d.Dry = d.Dry[:63] }),
		with(func(d *api.Disk) { d.Dry = append(d.Dry, 0) }),
		with(func(d *api.Disk) { d.Wet = d.Wet[:2] }),
		with(func(d *api.Disk) { d.Wet = append(d.Wet, d.Wet[0]) }),
		with(func(d *api.Disk) { d.Wet = nil }),
		with(func(d *api.Disk) { d.Wet[0].At = 1 }),
		with(func(d *api.Disk) { d.Wet[2].B[31]++ }),
		with(func(d *api.Disk) { d.Wet[2].B = d.Wet[2].B[:31] }),
		with(func(d *api.Disk) { d.Wet[0], d.Wet[1] = d.Wet[1], d.Wet[0] }),
		with(func(d *api.Disk) { d.Fuse = 0 }),
		with(func(d *api.Disk) { d.Dead = true }),
	} {
		if disk.Same(d, wet()) || disk.Same(wet(), d) {
			t.Errorf("%d: another one is told to be the same", i)
		}
	}
}

// P1.1
func TestLit(t *testing.T) {
	for _, fuse := range []int{-1, 0, 1, 1 << 30} {
		d, e := disk.Lit(wet(), fuse)
		told(t, "Lit", d, e, with(func(d *api.Disk) { d.Fuse = fuse }), api.OK)
	}
	d, e := disk.Lit(with(func(d *api.Disk) { d.Fuse = 0 }), 3)
	told(t, "Lit of a fuse", d, e, with(func(d *api.Disk) { d.Fuse = 3 }), api.OK)
	for _, dead := range []bool{false, true} {
		for _, fuse := range []int{-2, 1<<30 + 1, math.MinInt, math.MaxInt} {
			d, e := disk.Lit(with(func(d *api.Disk) { d.Dead = dead }), fuse)
			told(t, "Lit of none", d, e, api.Disk{}, api.ErrArg)
		}
	}
	d, e = disk.Lit(with(func(d *api.Disk) { d.Dead = true }), 3)
	told(t, "Lit of a dead one", d, e, api.Disk{}, api.ErrDead)
}

// P1.2
func TestRead(t *testing.T) {
	three := with(func(d *api.Disk) { d.Dry = append(d.Dry, octets(8)...) })
	for at, want := range [][]byte{octets(2), octets(4), octets(8)} {
		for _, fuse := range []int{-1, 0} {
			three.Fuse = fuse
			if b, e := disk.Read(three, at); !bytes.Equal(b, want) || e != api.OK {
				t.Errorf("%d: got %v, %d", at, b, e)
			}
		}
	}
	for _, at := range []int{-1, 2, math.MinInt, math.MaxInt} {
		if b, e := disk.Read(wet(), at); len(b) != 0 || e != api.ErrNone {
			t.Errorf("%d: got %v, %d", at, b, e)
		}
	}
	for _, at := range []int{-1, 0, 2} {
		if b, e := disk.Read(with(func(d *api.Disk) { d.Dead = true }), at); len(b) != 0 || e != api.ErrDead {
			t.Errorf("%d of a dead one: got %v, %d", at, b, e)
		}
	}
}

// P1.3
func TestWrite(t *testing.T) {
	for fuse, left := range map[int]int{-1: -1, 1: 0, 2: 1, 1 << 30: 1<<30 - 1} {
		for at := range 2 {
			d, e := disk.Write(with(func(d *api.Disk) { d.Fuse = fuse }), at, octets(9))
			told(t, "Write", d, e, with(func(d *api.Disk) {
				d.Fuse = left
				d.Wet = append(d.Wet, api.Write{At: at, B: octets(9)})
			}), api.OK)
		}
	}
}

// P1.3: each error comes ahead of those that are named behind it
func TestWriteErrs(t *testing.T) {
	full := func(d *api.Disk) { d.Wet = slices.Repeat(d.Wet[:1], 8192) }
	burnt := func(d *api.Disk) { d.Fuse = 0 }
	lit := func(d *api.Disk) { d.Fuse = 5 }
	dead := func(d *api.Disk) { d.Dead = true }
	for i, x := range []struct {
		change []func(d *api.Disk)
		at     int
		b      []byte
		e      api.Errno
	}{
		{nil, 0, nil, api.ErrArg},
		{nil, 0, octets(9)[1:], api.ErrArg},
		{nil, 0, append(octets(9), 9), api.ErrArg},
		{[]func(d *api.Disk){full, burnt, dead}, 2, octets(9)[1:], api.ErrArg},
		{[]func(d *api.Disk){dead}, 0, octets(9), api.ErrDead},
		{[]func(d *api.Disk){full, burnt, dead}, 2, octets(9), api.ErrDead},
		{nil, -1, octets(9), api.ErrNone},
		{nil, 2, octets(9), api.ErrNone},
		{nil, math.MaxInt, octets(9), api.ErrNone},
		{nil, math.MinInt, octets(9), api.ErrNone},
		{[]func(d *api.Disk){full, burnt}, 2, octets(9), api.ErrNone},
		{[]func(d *api.Disk){full}, 0, octets(9), api.ErrFull},
		{[]func(d *api.Disk){full, lit}, 0, octets(9), api.ErrFull},
		{[]func(d *api.Disk){full, burnt}, 0, octets(9), api.ErrFull},
	} {
		d := wet()
		for _, c := range x.change {
			c(&d)
		}
		out, e := disk.Write(d, x.at, x.b)
		if e != x.e {
			t.Errorf("%d:", i)
		}
		told(t, "Write", out, e, api.Disk{}, x.e)
	}
}

// P1.3: there is room for MaxWet writes, and a flush makes room anew
func TestWriteTillFull(t *testing.T) {
	d := with(func(d *api.Disk) { d.Wet = slices.Repeat(d.Wet[:1], 8191) })
	d, e := disk.Write(d, 1, octets(9))
	if len(d.Wet) != 8192 || e != api.OK {
		t.Fatalf("got %d writes, %d", len(d.Wet), e)
	}
	if _, e = disk.Write(d, 1, octets(9)); e != api.ErrFull {
		t.Fatalf("got %d", e)
	}
	d, e = disk.Flush(d)
	told(t, "Flush", d, e, api.Disk{Dry: append(octets(2), octets(9)...), Fuse: -1}, api.OK)
	if _, e = disk.Write(d, 1, octets(9)); e != api.OK {
		t.Errorf("got %d", e)
	}
}

// P1.3
func TestFlush(t *testing.T) {
	for fuse, left := range map[int]int{-1: -1, 1: 0, 2: 1, 1 << 30: 1<<30 - 1} {
		d, e := disk.Flush(with(func(d *api.Disk) { d.Fuse = fuse }))
		told(t, "Flush", d, e, api.Disk{Dry: append(octets(2), octets(4)...), Fuse: left}, api.OK)
	}
	d, e := disk.Flush(api.Disk{Dry: octets(1), Fuse: 4})
	told(t, "Flush of nothing", d, e, api.Disk{Dry: octets(1), Fuse: 3}, api.OK)
}

// P1.3: with no fuse left a deed is not done, and the disk is told; of one that is dead already it is of zeros
func TestDeedOfADeadDisk(t *testing.T) {
	burnt := with(func(d *api.Disk) { d.Fuse = 0 })
	dead := with(func(d *api.Disk) { d.Fuse = 0; d.Dead = true })
	for _, name := range []string{"Write", "Flush"} {
		d, e := calls()[name](burnt)
		told(t, name, d, e, dead, api.ErrDead)
		d, e = calls()[name](d)
		told(t, name+" again", d, e, api.Disk{}, api.ErrDead)
		d, e = calls()[name](with(func(d *api.Disk) { d.Fuse = 5; d.Dead = true }))
		told(t, name+" of one with a fuse", d, e, api.Disk{}, api.ErrDead)
	}
}

// P1.4
func TestCrash(t *testing.T) {
	mix := func(a, b byte, many int) []byte {
		return append(bytes.Repeat([]byte{a}, many), bytes.Repeat([]byte{b}, 32-many)...)
	}
	for i, x := range []struct{ keep, first, second []byte }{
		{nil, octets(1), octets(1)},
		{[]byte{}, octets(1), octets(1)},
		{[]byte{0, 0, 0}, octets(1), octets(1)},
		{[]byte{1}, mix(2, 1, 1), octets(1)},
		{[]byte{31}, mix(2, 1, 31), octets(1)},
		{[]byte{32}, octets(2), octets(1)},
		{[]byte{33, 255}, octets(2), octets(3)},
		{[]byte{0, 0, 255}, octets(1), octets(4)},
		{[]byte{0, 32, 10}, octets(1), mix(4, 3, 10)},
		{[]byte{0, 10, 32}, octets(1), octets(4)},
		{[]byte{0, 10, 4}, octets(1), append(mix(4, 3, 4)[:10], octets(1)[10:]...)},
		{[]byte{32, 32, 32}, octets(2), octets(4)},
		{[]byte{32, 32, 32, 32, 9}, octets(2), octets(4)},
	} {
		want := api.Disk{Dry: append(x.first, x.second...), Fuse: -1}
		for _, fuse := range []int{-1, 0, 6} {
			for _, dead := range []bool{false, true} {
				d, e := disk.Crash(with(func(d *api.Disk) { d.Fuse, d.Dead = fuse, dead }), x.keep)
				if e != api.OK {
					t.Errorf("%d:", i)
				}
				told(t, "Crash", d, e, want, api.OK)
			}
		}
	}
}

// R2: what is handed in stays as it is, and what is told shares nothing with it
func TestWhatIsToldIsNew(t *testing.T) {
	for name, call := range calls() {
		for _, fuse := range []int{-1, 0, 3} {
			d := with(func(d *api.Disk) { d.Fuse = fuse })
			d.Wet = append(make([]api.Write, 0, 9), d.Wet...) // with room behind it, into which nothing may be written
			before := copyOf(d)
			out, e := call(d)
			want := copyOf(out)
			told(t, name+": what was handed in", d, api.OK, before, api.OK)
			if behind := d.Wet[:4][3]; behind.At != 0 || behind.B != nil {
				t.Errorf("%s: wrote behind what was handed in: %v", name, behind)
			}
			scribble(d)
			told(t, name+": what was told", out, e, want, e)
			again, _ := call(copyOf(before))
			scribble(again)
			told(t, name+": what was told first", out, e, want, e)
			grow(out)
			told(t, name+": lists of what was told", out, e, want, e)
		}
	}
}

// scribble writes over all of a disk.
func scribble(d api.Disk) {
	clear(d.Dry)
	for i := range d.Wet {
		clear(d.Wet[i].B)
		d.Wet[i].At = 1
	}
}

// grow writes behind each list of a disk.
func grow(d api.Disk) {
	_ = append(d.Dry, octets(99)...)
	for _, w := range d.Wet {
		_ = append(w.B, octets(99)...)
	}
	_ = append(d.Wet, api.Write{At: -9})
}

// R2
func TestOctetsAreNew(t *testing.T) {
	d, b := wet(), octets(9)
	d, _ = disk.Write(d, 0, b)
	clear(b)
	for at, want := range [][]byte{octets(9), octets(4)} {
		got, _ := disk.Read(d, at)
		clear(got)
		if again, _ := disk.Read(d, at); !bytes.Equal(again, want) {
			t.Errorf("%d: got %v", at, again)
		}
	}
	d, _ = disk.Flush(d)
	got, _ := disk.Read(d, 0)
	clear(got)
	if again, _ := disk.Read(d, 0); !bytes.Equal(again, octets(9)) {
		t.Errorf("got %v", again)
	}
	d, keep := wet(), []byte{200, 3}
	disk.Crash(d, keep)
	if !bytes.Equal(keep, []byte{200, 3}) {
		t.Errorf("got %v", keep)
	}
}

// plain is what a disk is to be, sector by sector: all octets that each may have come to since it was flushed.
type plain struct {
	kept    [][]byte
	written []api.Write
}

// flushed lets all writes be kept.
func (p *plain) flushed() {
	for _, w := range p.written {
		p.kept[w.At] = w.B
	}
	p.written = nil
}

// crashed lets of each write so many octets be kept, octet by octet.
func (p *plain) crashed(keep []byte) {
	for i, w := range p.written {
		s := bytes.Clone(p.kept[w.At])
		for j := range s {
			if i < len(keep) && j < int(keep[i]) {
				s[j] = w.B[j]
			}
		}
		p.kept[w.At] = s
	}
	p.written = nil
}

// read is what a sector is to read as.
func (p *plain) read(at int) []byte {
	b := p.kept[at]
	for _, w := range p.written {
		if w.At == at {
			b = w.B
		}
	}
	return b
}

// P1.2 to P1.5: by whatever is done, a disk is as plain sectors are
func TestAgainstPlainSectors(t *testing.T) {
	x := uint64(1)
	draw := func(below int) int {
		x = x*6364136223846793005 + 1442695040888963407
		return int(x>>33) % below
	}
	for range 200 {
		n := 1 + draw(5)
		d, _ := disk.New(n)
		p := &plain{kept: slices.Repeat([][]byte{octets(0)}, n)}
		for range 60 {
			var e api.Errno
			switch draw(8) {
			case 0:
				d, e = disk.Flush(d)
				p.flushed()
			case 1:
				keep := make([]byte, draw(len(p.written)+2))
				for i := range keep {
					keep[i] = byte(draw(40))
				}
				d, e = disk.Crash(d, keep)
				p.crashed(keep)
			default:
				w := api.Write{At: draw(n), B: octets(byte(draw(256)))}
				d, e = disk.Write(d, w.At, w.B)
				p.written = append(p.written, w)
			}
			told(t, "all", d, e, api.Disk{Dry: bytes.Join(p.kept, nil), Wet: p.written, Fuse: -1}, api.OK)
			for at := range n {
				if b, e := disk.Read(d, at); !bytes.Equal(b, p.read(at)) || e != api.OK {
					t.Fatalf("%d: got %v, %d, want %v", at, b, e, p.read(at))
				}
			}
		}
	}
}

// P1.5
func TestWhatFollows(t *testing.T) {
	for _, fuse := range []int{-1, 1, 9} {
		d := with(func(d *api.Disk) { d.Fuse = fuse })
		flushed, _ := disk.Flush(d)
		all, _ := disk.Crash(d, []byte{32, 32, 32})
		none, _ := disk.Crash(d, nil)
		flushed.Fuse = -1
		told(t, "a crash that keeps all", all, api.OK, flushed, api.OK)
		told(t, "a crash that keeps nothing", none, api.OK, api.Disk{Dry: wet().Dry, Fuse: -1}, api.OK)
	}
	d, _ := disk.Flush(wet())
	d, _ = disk.Write(d, 0, octets(7))
	for many := range 40 {
		c, e := disk.Crash(d, []byte{byte(many)})
		if b, _ := disk.Read(c, 1); !bytes.Equal(b, octets(4)) || e != api.OK {
			t.Errorf("what was flushed, and not written anew, is %v", b)
		}
	}
}

// The document's example: of two sectors, written, flushed, and written anew, a crash that keeps 1 octet leaves the rest as it was flushed.
func TestExample(t *testing.T) {
	d, _ := disk.New(2)
	d, _ = disk.Write(d, 1, octets(5))
	d, _ = disk.Flush(d)
	d, _ = disk.Write(d, 1, octets(6))
	d, e := disk.Crash(d, []byte{1})
	want := append(octets(0), append([]byte{6}, octets(5)[1:]...)...)
	told(t, "Crash", d, e, api.Disk{Dry: want, Fuse: -1}, api.OK)
}
