package wal

import (
	"math"
	"slices"
	"testing"

	"mailguard/api"
	"mailguard/sector"
)

// text: of a record that is laid by hand.
func text(l ...Change) string { return slowText(l) }

// agrees checks that a disk's area is opened as the slow store hears it.
func agrees(t *testing.T, d *sector.Disk, from, count int) {
	t.Helper()
	k, ok := heard(lies(d), from, count)
	if !ok {
		opensNot(t, d, from, count, api.ErrCorrupt)
		return
	}
	tells(t, opens(t, d, from, count), k.values)
}

func TestNothingOnTheDisk(t *testing.T) {
	for _, data := range []string{"", "o", "MG", x(64), "M", x(63) + "M", "MG" + x(61) + "M"} {
		d := scribbled(t, 8, data)
		opensNot(t, d, 0, 8, api.ErrCorrupt)
		opensNot(t, d, 2, 4, api.ErrCorrupt)
	}
}

// spot: a byte of a disk.
type spot struct{ sector, byte int }

// TestSpoiltInOneByte spoils each byte of a store's area: behind a record that isn't whole none is taken; what fills up is not looked at.
func TestSpoiltInOneByte(t *testing.T) {
	p := pairOf(t, 12, 0, 12)
	p.commits(put("a", "1"))
	p.commits(put("a", "2"), put("c", x(40)))
	p.commits(put("a", "3"))
	records := []struct{ at, text int }{{0, 0}, {1, 7}, {2, 7 + 46}, {4, 7}}
	counts := map[spot]int{}
	for number, r := range records {
		counts[spot{r.at, 63}] = number
		for i := range 14 + r.text + 32 {
			if i < 63 {
				counts[spot{r.at, i}] = number
			} else {
				counts[spot{r.at + 1 + (i-63)/64, (i - 63) % 64}] = number
			}
		}
	}
	tales := []map[string]string{nil, {"a": "1"}, {"a": "2", "c": x(40)}, {"a": "3", "c": x(40)}}
	p.eachSpoilt(func(s spot, d *sector.Disk) {
		taken, there := counts[s]
		switch {
		case !there:
			tells(t, opens(t, d, 0, 12), tales[3])
		case taken == 0:
			opensNot(t, d, 0, 12, api.ErrCorrupt)
		default:
			tells(t, opens(t, d, 0, 12), tales[taken-1])
		}
	})
}

// TestSpoiltWithAnElderHalf: which is what the disk tells, if it is the first record that isn't whole.
func TestSpoiltWithAnElderHalf(t *testing.T) {
	p := pairOf(t, 8, 0, 8)
	p.commits(put("a", "1"))
	p.commits(put("a", "2"), put("b", x(120)))
	p.commits(put("a", "3"))
	p.used(1, 2, 2, 4)
	p.eachSpoilt(func(s spot, d *sector.Disk) {
		agrees(t, d, 0, 8)
		if s == (spot{4, 0}) || s == (spot{4, 63}) || s == (spot{6, 9}) {
			tells(t, opens(t, d, 0, 8), map[string]string{"a": "1"})
		}
		if s == (spot{7, 0}) || s == (spot{7, 63}) {
			tells(t, opens(t, d, 0, 8), map[string]string{"a": "2", "b": x(120)})
		}
	})
}

// eachSpoilt does a thing with copies of the disk, of each of which one byte is another one.
func (p *pair) eachSpoilt(do func(s spot, d *sector.Disk)) {
	for at, was := range p.sectors {
		for i := range was {
			for _, bits := range []byte{1, 0x80, 0xff} {
				spoilt := []byte(was)
				spoilt[i] ^= bits
				d := p.disk.Copy()
				d.Write(at, string(spoilt))
				do(spot{at, i}, d)
			}
		}
	}
}

// TestFillIsNotLookedAt: whatever it is, so long as the M is there.
func TestFillIsNotLookedAt(t *testing.T) {
	short := []byte(slowRecord(7, 0, text(put("a", "1")))[0])
	for i := 53; i < 63; i++ {
		short[i] = byte(i)
	}
	long := slowRecord(7, 1, text(put("b", x(20))))
	last := []byte(long[1])
	for i := 46 + 26 - 63; i < 64; i++ {
		last[i] = 'M'
	}
	d := disk(t, 8)
	lie(t, d, 4, []string{string(short), long[0], string(last)})
	agrees(t, d, 0, 8)
	tells(t, opens(t, d, 0, 8), map[string]string{"a": "1", "b": x(20)})
}

// TestHigherGenerationIsUsed: whichever half it is in, and however many records the other one has.
func TestHigherGenerationIsUsed(t *testing.T) {
	for _, c := range []struct{ first, second uint32 }{{1, 2}, {2, 1}, {3, 2}, {1, 100}, {0, 1}, {1, 0}, {256, 255}, {65536, 65535}, {1 << 31, 1<<31 - 1}, {math.MaxUint32, 1}, {0, math.MaxUint32}} {
		d := disk(t, 8)
		lie(t, d, 0, slowRecord(c.first, 0, text(put("a", "first"))))
		lie(t, d, 1, slowRecord(c.first, 1, text(put("b", "first"))))
		lie(t, d, 4, slowRecord(c.second, 0, text(put("a", "second"))))
		want := map[string]string{"a": "first", "b": "first"}
		if c.second > c.first {
			want = map[string]string{"a": "second"}
		}
		tells(t, opens(t, d, 0, 8), want)
		agrees(t, d, 0, 8)
	}
}

func TestOneHalfAlone(t *testing.T) {
	for _, at := range []int{0, 4} {
		for _, generation := range []uint32{0, 1, 77, math.MaxUint32} {
			p := &pair{t: t, disk: scribbled(t, 8, "from elsewhere"), count: 8}
			lie(t, p.disk, at, slowRecord(generation, 0, text(put("a", "1"))))
			p.sectors, p.store = lies(p.disk), opens(t, p.disk, 0, 8)
			tells(t, p.store, map[string]string{"a": "1"})
			for i := range 3 {
				p.commits(put("b", x(i)))
			}
			p.used(at/4, generation, 4, 4)
			p.commits(put("a", "2"))
			if generation < math.MaxUint32 {
				p.used(1-at/4, generation+1, 1, 1)
			}
		}
	}
}

// TestLastGeneration: behind it there is none, so nothing goes over; what was committed stays.
func TestLastGeneration(t *testing.T) {
	d := disk(t, 4)
	lie(t, d, 0, slowRecord(math.MaxUint32-1, 0, text(put("a", "1"))))
	lie(t, d, 1, slowRecord(math.MaxUint32-1, 1, text(put("a", "2"))))
	s := opens(t, d, 0, 4)
	for _, c := range []struct {
		value string
		want  api.Errno
	}{{"3", api.OK}, {"4", api.OK}, {"5", api.ErrFull}, {"6", api.ErrFull}} {
		if e := s.Commit(put("a", c.value)); e != c.want {
			t.Error(c.value, e)
		}
	}
	tells(t, s, map[string]string{"a": "4"})
	tells(t, opens(t, d, 0, 4), map[string]string{"a": "4"})
}

// TestRecordsThatAreTaken: whole ones, of that generation, each of the next number.
func TestRecordsThatAreTaken(t *testing.T) {
	third := text(put("b", "taken"))
	for _, c := range []struct {
		generation, number uint32
		taken              bool
	}{{5, 2, true}, {5, 1, false}, {5, 3, false}, {5, 0, false}, {4, 2, false}, {6, 2, false}, {1, 2, false}, {5, 2 + 1<<8, false}, {5 + 1<<16, 2, false}, {5, math.MaxUint32, false}} {
		d := disk(t, 12)
		lie(t, d, 6, slowRecord(5, 0, text(put("a", "1"))))
		lie(t, d, 7, slowRecord(5, 1, text(put("a", x(50)))))
		lie(t, d, 9, slowRecord(c.generation, c.number, third))
		lie(t, d, 10, slowRecord(5, 3, text(put("c", "behind"))))
		want := map[string]string{"a": x(50)}
		if c.taken {
			want["b"], want["c"] = "taken", "behind"
		}
		tells(t, opens(t, d, 0, 12), want)
		agrees(t, d, 0, 12)
	}
}

// TestFirstRecordOfAnotherNumber: numbers are from 0 on, so it is no half's first one.
func TestFirstRecordOfAnotherNumber(t *testing.T) {
	for _, number := range []uint32{1, 2, 256, math.MaxUint32} {
		d := disk(t, 8)
		lie(t, d, 0, slowRecord(9, number, text(put("a", "1"))))
		lie(t, d, 1, slowRecord(9, number+1, text(put("a", "2"))))
		opensNot(t, d, 0, 8, api.ErrCorrupt)
		lie(t, d, 4, slowRecord(2, 0, text(put("b", "1"))))
		tells(t, opens(t, d, 0, 8), map[string]string{"b": "1"})
	}
}

// TestRecordBeyondItsHalf: its bytes aren't all there, though they stand in the sectors behind.
func TestRecordBeyondItsHalf(t *testing.T) {
	d := disk(t, 12)
	lie(t, d, 0, slowRecord(1, 0, text(put("a", x(100)))))
	tells(t, opens(t, d, 0, 12), map[string]string{"a": x(100)})
	opensNot(t, d, 0, 4, api.ErrCorrupt)
	tells(t, opens(t, d, 0, 6), map[string]string{"a": x(100)})
	lie(t, d, 0, slowRecord(1, 0, text(put("a", "1"))))
	lie(t, d, 1, slowRecord(1, 1, text(put("a", x(100)))))
	tells(t, opens(t, d, 0, 4), map[string]string{"a": "1"})
	tells(t, opens(t, d, 0, 6), map[string]string{"a": "1"})
	tells(t, opens(t, d, 0, 8), map[string]string{"a": x(100)})
}

// TestWrongLengths: of a first record whose length says more than there is, as large as four bytes tell.
func TestWrongLengths(t *testing.T) {
	right := slowRecord(1, 0, "")[0]
	for _, length := range []string{"\xff\xff\xff\xff", "\x80\x00\x00\x00", "\x7f\xff\xff\xff", "\x00\x00\x00\x01", "\x00\x00\x00\x11", "\x00\x00\x00\x12", "\x00\x00\x00\xd1", "\x00\x00\x00\xd2", "\x00\x00\x01\x00", "\xff\xff\xff\xd2"} {
		d := disk(t, 8)
		d.Write(0, right[:10]+length+right[14:])
		opensNot(t, d, 0, 8, api.ErrCorrupt)
		d.Write(4, right)
		tells(t, opens(t, d, 0, 8), nil)
	}
}

// TestOtherBeginnings: of a record that is right but for its first bytes, or for its M; its digest is of what stands there.
func TestOtherBeginnings(t *testing.T) {
	for _, begins := range []string{"Mg", "mG", "GM", "\x00\x00", "M\x00", "\x00G"} {
		bytes := begins + slowRecord(1, 0, "")[0][2:14]
		bytes += (&Store{}).Sum(bytes)
		d := disk(t, 8)
		d.Write(0, bytes+x(17)+"M")
		opensNot(t, d, 0, 8, api.ErrCorrupt)
	}
	for _, ends := range []string{"\x00", "m", "N", "\xff"} {
		d := disk(t, 8)
		d.Write(0, slowRecord(1, 0, "")[0][:63]+ends)
		opensNot(t, d, 0, 8, api.ErrCorrupt)
	}
}

// TestRecordsOfNoChanges: whose text isn't one of changes: of the half that is used, among those that are taken.
func TestRecordsOfNoChanges(t *testing.T) {
	for _, wrong := range []string{"x", "\x02\x00\x00\x00\x00", "\x01\x00\x00\x00\x01v", text(put("a", "1")) + "\x00", x(100)} {
		d := disk(t, 16)
		lie(t, d, 0, slowRecord(3, 0, wrong))
		opensNot(t, d, 0, 16, api.ErrCorrupt)
		lie(t, d, 8, slowRecord(2, 0, text(put("b", "2"))))
		opensNot(t, d, 0, 16, api.ErrCorrupt)
		lie(t, d, 8, slowRecord(4, 0, text(put("b", "2"))))
		tells(t, opens(t, d, 0, 16), map[string]string{"b": "2"})
		lie(t, d, 9, slowRecord(4, 1, wrong))
		opensNot(t, d, 0, 16, api.ErrCorrupt)
		lie(t, d, 9, slowRecord(4, 2, wrong))
		tells(t, opens(t, d, 0, 16), map[string]string{"b": "2"})
		lie(t, d, 9, slowRecord(3, 1, wrong))
		tells(t, opens(t, d, 0, 16), map[string]string{"b": "2"})
	}
}

// TestFirstRecordOfAnyChanges: a text of changes it is, also if keys don't rise, or go.
func TestFirstRecordOfAnyChanges(t *testing.T) {
	d := disk(t, 8)
	lie(t, d, 0, slowRecord(1, 0, text(put("b", "1"), put("a", "1"), gone("c"), gone("b"), put("a", "2"))))
	tells(t, opens(t, d, 0, 8), map[string]string{"a": "2"})
}

// TestElderGenerationIsLeft: what is left of it behind the new records isn't taken.
func TestElderGenerationIsLeft(t *testing.T) {
	p := pairOf(t, 8, 0, 8)
	for i := range 4 {
		p.commits(put("a", x(i)), put("b", ""))
	}
	p.used(1, 2, 1, 1)
	for i := range 3 {
		p.commits(put("a", x(i)))
	}
	p.used(1, 2, 4, 4)
	p.commits(gone("b"))
	p.used(0, 3, 1, 1)
	left := lies(p.disk)
	if generation, number, _, size := slowWhole(left[2:4]); generation != 1 || number != 2 || size != 1 {
		t.Fatal("nothing is left", generation, number, size)
	}
	tells(t, opens(t, p.disk, 0, 8), map[string]string{"a": "xx"})
	// Where the next record comes, one of the elder generation stands that has the next number.
	p.disk.Write(1, slowRecord(1, 1, text(put("a", "elder")))[0])
	p.sectors = lies(p.disk)
	p.store = opens(t, p.disk, 0, 8)
	tells(t, p.store, map[string]string{"a": "xx"})
	p.commits(put("c", "3"))
	p.used(0, 3, 2, 2)
	tells(t, opens(t, p.disk, 0, 8), map[string]string{"a": "xx", "c": "3"})
}

// TestFromElsewhere: sectors that are each a record that might be the next one, before a store is made there.
func TestFromElsewhere(t *testing.T) {
	for _, generation := range []uint32{1, 2, 3} {
		for _, number := range []uint32{0, 1, 2, 3} {
			d := scribbled(t, 14, slowRecord(generation, number, text(put("evil", "1")))[0])
			p := &pair{t: t, disk: d, store: makes(t, d, 2, 8), from: 2, count: 8}
			p.sectors = lies(d)
			tells(t, opens(t, d, 2, 8), nil)
			for i := range 12 {
				p.commits(put(string(rune('a'+i%3)), x(20*(i%3))))
				tells(t, opens(t, d, 2, 8), p.knows().values)
				if _, ok := p.store.Get("evil"); ok {
					t.Fatal(generation, number, i)
				}
			}
			for _, at := range []int{0, 1, 10, 11, 12, 13} {
				if p.sectors[at] != slowRecord(generation, number, text(put("evil", "1")))[0] {
					t.Error(at, "was written")
				}
			}
		}
	}
}

// TestValueThatLooksLikeARecord: its sectors lie behind a record's first one, which a cut keeps away.
func TestValueThatLooksLikeARecord(t *testing.T) {
	evil := slowRecord(1, 2, text(put("evil", "1")))[0]
	for torn := range 64 {
		p := pairOf(t, 16, 0, 16)
		// The first sector has 14 bytes of the record ahead of the text, 5 ahead of the key, and 1 of it.
		large := put("a", x(63-14-6)+evil+evil+x(10))
		deeds, _ := p.knows().deeds([]Change{large})
		if deeds[len(deeds)-2].data != evil {
			t.Fatal("no record")
		}
		if !p.commit(api.Cut{At: len(deeds), Torn: torn}, large) {
			t.Fatal("no cut")
		}
		if lies(p.disk)[2] != evil {
			t.Fatal("nothing is left")
		}
		tells(t, p.store, nil)
		p.commits(put("b", "2"))
		want := map[string]string{"b": "2"}
		tells(t, p.store, want)
		tells(t, opens(t, p.disk, 0, 16), want)
		if !slices.Equal(p.store.Keys(""), []string{"b"}) {
			t.Error(torn)
		}
	}
}
