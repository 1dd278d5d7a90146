package sector

import (
	"math"
	"strings"
	"sync"
	"testing"

	"mailguard/api"
)

func x(count int) string { return strings.Repeat("x", count) }

// filled tells a sector in which that was written whole.
func filled(s string) string { return s + strings.Repeat("\x00", 64-len(s)) }

func made(t *testing.T, sectors int) *Disk {
	t.Helper()
	d, e := New(sectors)
	if d == nil || e != api.OK {
		t.Fatalf("New(%d): %v %d", sectors, d, e)
	}
	return d
}

func writes(t *testing.T, d *Disk, at int, data string, want api.Errno) {
	t.Helper()
	if e := d.Write(at, data); e != want {
		t.Errorf("Write(%d, %q): %d, not %d", at, data, e, want)
	}
}

func reads(t *testing.T, d *Disk, at int, want string) {
	t.Helper()
	if s, e := d.Read(at); s != want || e != api.OK {
		t.Errorf("Read(%d): %q %d, not %q", at, s, e, want)
	}
}

// refuses checks that a sector can't be read.
func refuses(t *testing.T, d *Disk, at int, want api.Errno) {
	t.Helper()
	if s, e := d.Read(at); s != "" || e != want {
		t.Errorf("Read(%d): %q %d, not %d", at, s, e, want)
	}
}

// holds checks all sectors of a disk whose power is on.
func holds(t *testing.T, d *Disk, want ...string) {
	t.Helper()
	if d.Size() != len(want) {
		t.Errorf("%d sectors, not %d", d.Size(), len(want))
	}
	for at, s := range want {
		reads(t, d, at, s)
	}
}

// stands checks whether a disk's power is off, and how many writes there were.
func stands(t *testing.T, d *Disk, down bool, count int) {
	t.Helper()
	if d.Down() != down || d.Writes() != count || d.Down() != down || d.Writes() != count {
		t.Errorf("down %v, not %v; %d writes, not %d", d.Down(), down, d.Writes(), count)
	}
}

func TestNew(t *testing.T) {
	for _, sectors := range []int{1, 2, 3, 63, 64, 65, 4095, 4096} {
		d := made(t, sectors)
		if d.Size() != sectors {
			t.Error(sectors, d.Size())
		}
		stands(t, d, false, 0)
		for at := range sectors {
			reads(t, d, at, filled(""))
		}
		refuses(t, d, sectors, api.ErrRange)
	}
}

func TestNewOfNoSuchSize(t *testing.T) {
	for _, sectors := range []int{0, -1, -4096, 4097, 4098, 8192, math.MaxInt, math.MinInt, math.MaxInt/64 + 1, math.MaxInt/32 + 2} {
		if d, e := New(sectors); d != nil || e != api.ErrRange {
			t.Error(sectors, d, e)
		}
	}
}

func TestWrite(t *testing.T) {
	d := made(t, 4)
	for i, c := range []struct {
		at   int
		data string
	}{
		{0, "a"},
		{1, "two"},
		{3, "bytes \x00 of \xff any \r\n kind"},
		{2, x(64)},
		{1, "2"},
		{1, "two again"},
	} {
		writes(t, d, c.at, c.data, api.OK)
		reads(t, d, c.at, filled(c.data))
		stands(t, d, false, i+1)
	}
	holds(t, d, filled("a"), filled("two again"), x(64), filled("bytes \x00 of \xff any \r\n kind"))
}

func TestWriteOfEachLength(t *testing.T) {
	for length := range 65 {
		d := made(t, 3)
		for at := range 3 {
			writes(t, d, at, strings.Repeat("o", 64), api.OK)
		}
		writes(t, d, 1, x(length), api.OK)
		holds(t, d, strings.Repeat("o", 64), filled(x(length)), strings.Repeat("o", 64))
		stands(t, d, false, 4)
	}
}

func TestAShorterWriteOverALongerOne(t *testing.T) {
	d := made(t, 2)
	for i, length := range []int{64, 63, 40, 1, 0, 1, 64, 0} {
		writes(t, d, 1, x(length), api.OK)
		holds(t, d, filled(""), filled(x(length)))
		stands(t, d, false, i+1)
	}
}

func TestEachByteIsWritten(t *testing.T) {
	d := made(t, 256)
	for at := range 256 {
		writes(t, d, at, strings.Repeat(string([]byte{byte(at), byte(at + 1)}), 32), api.OK)
	}
	for at := range 256 {
		reads(t, d, at, strings.Repeat(string([]byte{byte(at), byte(at + 1)}), 32))
	}
}

func TestFirstAndLastSector(t *testing.T) {
	for _, sectors := range []int{1, 2, 3, 4096} {
		d := made(t, sectors)
		writes(t, d, 0, "first", api.OK)
		reads(t, d, 0, filled("first"))
		writes(t, d, sectors-1, x(64), api.OK)
		reads(t, d, sectors-1, x(64))
		if sectors > 1 {
			reads(t, d, 0, filled("first"))
		}
		for at := 1; at < sectors-1; at++ {
			reads(t, d, at, filled(""))
		}
		stands(t, d, false, 2)
	}
}

func TestAllSectorsAreApart(t *testing.T) {
	d := made(t, 4096)
	own := func(at int) string { return strings.Repeat(string([]byte{byte(at), byte(at >> 8)}), 32) }
	for i := range 4096 {
		at := i * 1237 % 4096
		writes(t, d, at, own(at), api.OK)
	}
	for at := range 4096 {
		reads(t, d, at, own(at))
	}
	stands(t, d, false, 4096)
}

// farOff: where a disk of so many sectors has none.
func farOff(sectors int) []int {
	return []int{-1, -2, -sectors, sectors, sectors + 1, 4096, 4097, math.MaxInt, math.MinInt, math.MaxInt/64 + 1, math.MinInt / 64, 1 << 32, 1 << 58}
}

func TestNoSuchSector(t *testing.T) {
	for _, sectors := range []int{1, 3, 4096} {
		d := made(t, sectors)
		writes(t, d, 0, "a", api.OK)
		for _, at := range farOff(sectors) {
			for _, length := range []int{0, 1, 64, 65, 1000} {
				writes(t, d, at, x(length), api.ErrRange)
			}
			refuses(t, d, at, api.ErrRange)
		}
		stands(t, d, false, 1)
		reads(t, d, 0, filled("a"))
		for at := 1; at < sectors; at++ {
			reads(t, d, at, filled(""))
		}
	}
}

func TestTooMuchForASector(t *testing.T) {
	d := made(t, 2)
	writes(t, d, 0, "a", api.OK)
	writes(t, d, 1, x(64), api.OK)
	for _, length := range []int{65, 66, 127, 128, 129, 1 << 20} {
		writes(t, d, 0, strings.Repeat("y", length), api.ErrLong)
		writes(t, d, 1, strings.Repeat("\x00", length), api.ErrLong)
		holds(t, d, filled("a"), x(64))
		stands(t, d, false, 2)
	}
}

// TestErrorsWhilePowerIsOff: that the power is off comes ahead of all else.
func TestErrorsWhilePowerIsOff(t *testing.T) {
	d := made(t, 2)
	writes(t, d, 1, "old", api.OK)
	d.Arm(api.Cut{At: 1, Torn: 64})
	writes(t, d, 0, "new", api.ErrDown)
	stands(t, d, true, 2)
	for _, at := range append(farOff(2), 0, 1) {
		for _, length := range []int{0, 1, 64, 65, 1000} {
			writes(t, d, at, x(length), api.ErrDown)
		}
		refuses(t, d, at, api.ErrDown)
	}
	stands(t, d, true, 2)
	if d.Size() != 2 {
		t.Error(d.Size())
	}
	d.Start()
	stands(t, d, false, 2)
	holds(t, d, filled("new"), filled("old"))
}

func TestDisksKnowNothingOfEachOther(t *testing.T) {
	one, other := made(t, 2), made(t, 2)
	one.Arm(api.Cut{At: 2, Torn: 1})
	writes(t, one, 0, "a", api.OK)
	writes(t, other, 0, "b", api.OK)
	writes(t, other, 1, "c", api.OK)
	writes(t, one, 1, "d", api.ErrDown)
	stands(t, one, true, 2)
	stands(t, other, false, 2)
	one.Start()
	holds(t, one, filled("a"), filled("d"))
	holds(t, other, filled("b"), filled("c"))
}

func TestWhatWasReadStays(t *testing.T) {
	d := made(t, 1)
	writes(t, d, 0, "a", api.OK)
	s, _ := d.Read(0)
	writes(t, d, 0, x(64), api.OK)
	if s != filled("a") {
		t.Errorf("%q", s)
	}
}

func TestSectorsAreCutOutWithTheirCapacity(t *testing.T) {
	d := made(t, 3)
	for at := range 3 {
		if s := d.cutOut(at); len(s) != 64 || cap(s) != 64 {
			t.Error(at, len(s), cap(s))
		}
		_ = append(d.cutOut(at), 'z')
	}
	holds(t, d, filled(""), filled(""), filled(""))
}

func TestWritesIsAskedWhileThereAreSome(t *testing.T) {
	d := made(t, 2)
	var all sync.WaitGroup
	all.Go(func() {
		for i := range 1000 {
			d.Write(i%3, "abc")
		}
	})
	last := 0
	for range 1000 {
		now := d.Writes()
		if now < last || now > 667 {
			t.Error(last, now)
		}
		last = now
	}
	all.Wait()
	stands(t, d, false, 667)
}
