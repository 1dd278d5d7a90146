package wal

import (
	"math"
	"slices"
	"strings"
	"testing"

	"mailguard/api"
	"mailguard/sector"
)

// down has a disk's power fail, in a write that none of its stores knows of, and that changes nothing.
func down(t *testing.T, d *sector.Disk) {
	t.Helper()
	d.Arm(api.Cut{At: 1, Torn: 0})
	if e := d.Write(0, ""); e != api.ErrDown || !d.Down() {
		t.Fatal(e)
	}
}

// noAreas: where no store is, of a disk of 12 sectors.
var noAreas = [][2]int{
	{-1, 4}, {-4, 4}, {-4, 8}, {math.MinInt, 4}, {math.MinInt, math.MinInt}, {-1, math.MaxInt},
	{0, 0}, {0, 2}, {0, 1}, {0, 3}, {0, 5}, {0, 7}, {0, 11}, {0, -2}, {0, -4}, {4, -4}, {12, -4}, {0, math.MinInt}, {12, math.MinInt},
	{0, 13}, {0, 14}, {1, 12}, {2, 12}, {4, 10}, {8, 6}, {9, 4}, {10, 4}, {11, 4}, {12, 4}, {13, 4}, {12, 0}, {100, 4},
	{math.MaxInt, 4}, {math.MaxInt - 3, 4}, {0, math.MaxInt}, {0, math.MaxInt - 1}, {4, math.MaxInt - 3}, {math.MaxInt - 1, math.MaxInt - 1}, {1<<62 + 4, 1 << 62},
}

func TestAreas(t *testing.T) {
	for _, a := range noAreas {
		d := scribbled(t, 12, "stays")
		was, writes := lies(d), d.Writes()
		if s, e := Make(d, a[0], a[1]); s != nil || e != api.ErrRange {
			t.Error("Make", a, e)
		}
		if s, e := Open(d, a[0], a[1]); s != nil || e != api.ErrRange {
			t.Error("Open", a, e)
		}
		same(t, d, was)
		if d.Writes() != writes {
			t.Error(a, "written")
		}
		down(t, d)
		if s, e := Make(d, a[0], a[1]); s != nil || e != api.ErrRange {
			t.Error("Make, power off", a, e)
		}
		if s, e := Open(d, a[0], a[1]); s != nil || e != api.ErrRange {
			t.Error("Open, power off", a, e)
		}
	}
	for from := range 12 {
		for count := 4; from+count <= 12; count += 2 {
			p := pairOf(t, 12, from, count)
			p.commits(put("a", "1"))
			tells(t, opens(t, p.disk, from, count), map[string]string{"a": "1"})
		}
	}
}

func TestAreasOfTheLargestDisk(t *testing.T) {
	for _, a := range [][2]int{{0, 4096}, {4092, 4}, {1, 4094}, {2, 4094}} {
		d := disk(t, 4096)
		s := makes(t, d, a[0], a[1])
		if e := s.Commit(put("a", "1")); e != api.OK {
			t.Error(a, e)
		}
		tells(t, opens(t, d, a[0], a[1]), map[string]string{"a": "1"})
	}
	d := disk(t, 4096)
	s := makes(t, d, 0, 4096)
	for i := range 5000 {
		if e := s.Commit(put(string(rune('a'+i%26)), x(i%1000)), gone("b")); e != api.OK {
			t.Fatal(i, e)
		}
	}
	k, _ := heard(lies(d), 0, 4096)
	tells(t, s, k.values)
	tells(t, opens(t, d, 0, 4096), k.values)
	if k.generation < 3 || len(k.values) != 25 {
		t.Error(k.generation, len(k.values))
	}
}

// TestExampleOfTheChapter spells out each byte of an area of 4 sectors: two records of one sector in each half.
func TestExampleOfTheChapter(t *testing.T) {
	d := scribbled(t, 4, strings.Repeat("o", 64))
	s := makes(t, d, 0, 4)
	sum := func(s string) string { return (&Store{}).Sum(s) }
	sectorOf := func(record string) string {
		record += sum(record)
		return record + strings.Repeat("\x00", 63-len(record)) + "M"
	}
	empty, old := strings.Repeat("\x00", 64), strings.Repeat("o", 64)
	first := sectorOf("MG\x00\x00\x00\x01\x00\x00\x00\x00\x00\x00\x00\x00")
	check := func(writes int, want ...string) {
		t.Helper()
		same(t, d, want)
		if d.Writes() != 4+writes {
			t.Errorf("%d writes, not %d", d.Writes()-4, writes)
		}
	}
	check(4, first, empty, empty, old)
	s.Commit(put("a", "1"))
	second := sectorOf("MG\x00\x00\x00\x01\x00\x00\x00\x01\x00\x00\x00\x07\x00\x00\x01\x00\x01a1")
	check(5, first, second, empty, old)
	s.Commit(put("b", ""))
	over := sectorOf("MG\x00\x00\x00\x02\x00\x00\x00\x00\x00\x00\x00\x0d\x00\x00\x01\x00\x01a1\x00\x00\x01\x00\x00b")
	check(8, first, second, over, empty)
	s.Commit(gone("a"))
	behind := sectorOf("MG\x00\x00\x00\x02\x00\x00\x00\x01\x00\x00\x00\x06\x01\x00\x01\x00\x00a")
	check(9, first, second, over, behind)
	s.Commit(put("c", "3"))
	back := sectorOf("MG\x00\x00\x00\x03\x00\x00\x00\x00\x00\x00\x00\x0d\x00\x00\x01\x00\x00b\x00\x00\x01\x00\x01c3")
	check(12, back, empty, over, behind)
	tells(t, s, map[string]string{"b": "", "c": "3"})
	tells(t, opens(t, d, 0, 4), map[string]string{"b": "", "c": "3"})
}

func TestMake(t *testing.T) {
	for _, a := range [][2]int{{0, 4}, {0, 6}, {0, 12}, {1, 4}, {5, 6}, {8, 4}} {
		d := scribbled(t, 12, strings.Repeat("o", 64))
		want, count, _ := done(lies(d), slowMake(a[0], a[1]), api.Cut{})
		s := makes(t, d, a[0], a[1])
		same(t, d, want)
		if d.Writes() != 12+count || count != 4 {
			t.Errorf("%d: %d writes", a, d.Writes()-12)
		}
		tells(t, s, nil)
		tells(t, opens(t, d, a[0], a[1]), nil)
	}
}

// TestMakeOverAStore: of what lay there nothing is left.
func TestMakeOverAStore(t *testing.T) {
	for commits := range 12 {
		p := pairOf(t, 8, 0, 8)
		for range commits {
			p.commits(put("a", x(20)), put("b", "2"))
		}
		s := makes(t, p.disk, 0, 8)
		tells(t, s, nil)
		tells(t, opens(t, p.disk, 0, 8), nil)
		if e := s.Commit(put("c", "3")); e != api.OK {
			t.Error(e)
		}
		tells(t, opens(t, p.disk, 0, 8), map[string]string{"c": "3"})
	}
}

func TestPowerOff(t *testing.T) {
	p := pairOf(t, 8, 0, 8)
	p.commits(put("a", "1"))
	down(t, p.disk)
	writes := p.disk.Writes()
	if s, e := Make(p.disk, 0, 8); s != nil || e != api.ErrDown {
		t.Error(e)
	}
	opensNot(t, p.disk, 0, 8, api.ErrDown)
	tells(t, p.store, map[string]string{"a": "1"})
	if e := p.store.Commit(); e != api.OK {
		t.Error(e)
	}
	tells(t, p.store, map[string]string{"a": "1"})
	if e := p.store.Commit(put("b", "2")); e != api.ErrDown {
		t.Error(e)
	}
	tells(t, p.store, nil)
	same(t, p.disk, p.sectors)
	if p.disk.Writes() != writes {
		t.Error("written")
	}
	blank := disk(t, 8)
	down(t, blank)
	opensNot(t, blank, 0, 8, api.ErrDown)
	p.disk.Start()
	tells(t, opens(t, p.disk, 0, 8), map[string]string{"a": "1"})
}

// TestBehindErrDown: a store whose power failed tells no keys any more, nor does it write, whatever becomes of the disk.
func TestBehindErrDown(t *testing.T) {
	for _, at := range []int{1, 2} {
		p := pairOf(t, 8, 0, 8)
		p.commits(put("a", "1"), put("b", "2"))
		p.disk.Arm(api.Cut{At: at, Torn: 64})
		if e := p.store.Commit(put("c", "3")); e != api.ErrDown {
			t.Error(at, e)
		}
		tells(t, p.store, nil)
		check := func(want api.Errno, l ...Change) {
			t.Helper()
			writes := p.disk.Writes()
			if e := p.store.Commit(l...); e != want || p.disk.Writes() != writes {
				t.Errorf("%d, not %d", e, want)
			}
			tells(t, p.store, nil)
		}
		for range 2 {
			check(api.ErrDown, put("d", "4"))
			check(api.ErrDown, gone("a"))
			check(api.ErrFull, put("d", x(300)))
			check(api.ErrLong, put("d", x(65536)))
			check(api.OK)
			p.disk.Start()
		}
		want := map[string]string{"a": "1", "b": "2"}
		if at == 2 {
			want["c"] = "3"
		}
		tells(t, opens(t, p.disk, 0, 8), want)
	}
}

func TestCommit(t *testing.T) {
	p := pairOf(t, 40, 0, 40)
	for _, l := range [][]Change{
		{put("a", "1"), put("b", "2")},
		{},
		{put("a", "1")},
		{put("a", "other"), put("ab", ""), put("", "of no key")},
		{gone("b"), gone("never there")},
		{put("c", "1"), put("c", "2"), put("c", "3")},
		{put("d", "1"), gone("d")},
		{gone("c"), put("c", "again")},
		{gone("c"), gone("c")},
		{put("c", "anew")},
		{gone("")},
		{{Key: "a", Value: "lost", Gone: true}},
		{put("\x00\xff", "\x00"), put("\xff", "\r\n"), put("MG", "M")},
		{put("long", x(500))},
		{put(x(300), "of a long key")},
		{gone("never there")},
	} {
		was := slices.Clone(l)
		p.commits(l...)
		if !slices.Equal(l, was) {
			t.Error("Commit changed", say(was))
		}
		tells(t, opens(t, p.disk, 0, 40), p.knows().values)
	}
	want := map[string]string{"ab": "", "c": "anew", "\x00\xff": "\x00", "\xff": "\r\n", "MG": "M", "long": x(500), x(300): "of a long key"}
	tells(t, p.store, want)
	tells(t, opens(t, p.disk, 0, 40), want)
}

func TestCommitOfNothing(t *testing.T) {
	p := pairOf(t, 4, 0, 4)
	p.commits(put("a", "1"))
	writes := p.disk.Writes()
	for i, e := range []api.Errno{p.store.Commit(), p.store.Commit(nil...), p.store.Commit([]Change{}...)} {
		if e != api.OK || p.disk.Writes() != writes {
			t.Error(i, e)
		}
	}
	tells(t, p.store, map[string]string{"a": "1"})
}

// TestSectorsOfARecord: a text of 17 bytes has its record fill the first 63 bytes; each 64 more have one more sector.
func TestSectorsOfARecord(t *testing.T) {
	for size, want := range map[int]int{6: 1, 16: 1, 17: 1, 18: 2, 19: 2, 80: 2, 81: 2, 82: 3, 145: 3, 146: 4, 17 + 64*8: 9, 18 + 64*8: 10} {
		p := pairOf(t, 24, 0, 24)
		writes := p.disk.Writes()
		p.commits(putOf("a", size))
		if got := p.disk.Writes() - writes; got != want+1 {
			t.Errorf("a text of %d: %d writes, not %d and one", size, got, want)
		}
		p.used(0, 1, 2, 1+want)
		p.commits(put("b", "behind"))
		p.used(0, 1, 3, 2+want)
		tells(t, opens(t, p.disk, 0, 24), p.knows().values)
	}
}

// TestFilledToTheLastSector: each half has 4 sectors, of which the first record has one.
func TestFilledToTheLastSector(t *testing.T) {
	full := 17 + 64*2
	p := pairOf(t, 10, 1, 8)
	p.commits(putOf("a", full))
	p.used(0, 1, 2, 4)
	p = pairOf(t, 10, 1, 8)
	p.commits(putOf("a", full+1))
	p.used(1, 2, 1, 4)
	p.commits(putOf("b", 6))
	p.used(0, 3, 1, 4)
	p = pairOf(t, 10, 1, 8)
	p.commits(putOf("a", full+64))
	p.used(1, 2, 1, 4)
	p.commits(putOf("a", full+64))
	p.used(0, 3, 1, 4)
	tells(t, opens(t, p.disk, 1, 8), map[string]string{"a": x(full + 64 - 6)})
}

func TestFull(t *testing.T) {
	full := 17 + 64*3
	p := pairOf(t, 8, 0, 8)
	p.commits(put("a", "1"))
	for _, l := range [][]Change{
		{putOf("a", full+1)},
		{putOf("b", full-6)},
		{putOf("b", full-7-6), putOf("c", 7)},
		{put("b", x(65535))},
		{put("b", x(65535)), put("b", ""), put("c", x(300))},
		{put("b", x(300))},
	} {
		writes := p.disk.Writes()
		if e := p.store.Commit(l...); e != api.ErrFull {
			t.Error(say(l), e)
		}
		same(t, p.disk, p.sectors)
		if p.disk.Writes() != writes {
			t.Error(say(l), "written")
		}
		tells(t, p.store, map[string]string{"a": "1"})
		p.commits(l...)
	}
	p.used(0, 1, 2, 2)
	p.commits(putOf("b", full-7))
	p.used(1, 2, 1, 4)
	p.commits(putOf("c", 6))
	p.commits(gone("a"))
	p.used(0, 3, 1, 4)
	p.commits(gone("b"), putOf("c", full))
	p.used(1, 4, 1, 4)
	tells(t, p.store, map[string]string{"c": x(full - 6)})
}

// TestTooLargeTextOfFewKeys: it is the record of all keys and values that is to go into the other half, not that of the changes.
func TestTooLargeTextOfFewKeys(t *testing.T) {
	p := pairOf(t, 8, 0, 8)
	p.commits(put("a", x(300)), put("a", x(250)), gone("a"), put("b", "2"))
	p.used(1, 2, 1, 1)
	tells(t, p.store, map[string]string{"b": "2"})
	var many []Change
	for range 200 {
		many = append(many, put("b", "other"), gone("never there"))
	}
	p.commits(many...)
	p.used(0, 3, 1, 1)
	tells(t, opens(t, p.disk, 0, 8), map[string]string{"b": "other"})
}

func TestTooLong(t *testing.T) {
	p := pairOf(t, 8, 0, 8)
	p.commits(put("a", "1"))
	wrong := [][]Change{
		{put(x(65536), "")}, {put("a", x(65536))}, {gone(x(65536))}, {{Key: "a", Value: x(65536), Gone: true}},
		{put("b", "2"), put("a", x(65536))}, {put("b", x(65535)), put("a", x(65536))}, {put("a", x(65536)), gone("a")},
	}
	for _, off := range []bool{false, true} {
		if off {
			down(t, p.disk)
		}
		writes := p.disk.Writes()
		for i, l := range wrong {
			if e := p.store.Commit(l...); e != api.ErrLong {
				t.Error(off, i, e)
			}
		}
		if e := p.store.Commit(put("b", x(300))); e != api.ErrFull {
			t.Error(off, e)
		}
		tells(t, p.store, map[string]string{"a": "1"})
		same(t, p.disk, p.sectors)
		if p.disk.Writes() != writes {
			t.Error(off, "written")
		}
	}
	if e := p.store.Commit(put("b", "2")); e != api.ErrDown {
		t.Error(e)
	}
}

func TestLongestKeysAndValues(t *testing.T) {
	p := pairOf(t, 4096, 0, 4096)
	p.commits(put("a", x(65535)))
	p.used(0, 1, 2, 1+1025)
	p.commits(put(x(65535), ""))
	tells(t, p.store, map[string]string{"a": x(65535)})
	p.commits(put(x(65535), ""), gone("a"))
	p.used(1, 2, 1, 1025)
	tells(t, p.store, map[string]string{x(65535): ""})
	p.commits(put(x(65535), x(65486)))
	p.used(1, 2, 1, 1025)
	p.commits(put(x(65535), x(65485)))
	p.used(0, 3, 1, 2048)
	p.commits(gone(x(65535)), put("a", x(65535)))
	p.used(1, 4, 1, 1025)
	tells(t, opens(t, p.disk, 0, 4096), map[string]string{"a": x(65535)})
}

// TestOverAndBack goes over into the other half again and again, also by a store that was opened.
func TestOverAndBack(t *testing.T) {
	for _, count := range []int{4, 6, 8, 14} {
		p := pairOf(t, 20, 3, count)
		generations := map[uint32]int{}
		for i := range 60 {
			p.commits(put(string(rune('a'+i%3)), x(i%7)), gone(string(rune('a'+i%2))))
			generations[p.knows().generation]++
			if i%5 == 4 {
				p.store = opens(t, p.disk, 3, count)
			}
		}
		if len(generations) < 60/(count/2+1) || p.knows().generation != uint32(len(generations)) {
			t.Error(count, generations)
		}
	}
}

func TestKeys(t *testing.T) {
	s := makes(t, disk(t, 40), 0, 40)
	s.Commit(put("q/2", ""), put("q", "2"), put("q/10", ""), put("", ""), put("q/1", ""), put("p", ""), put("r", ""), put("\xff", ""), put("Q", ""))
	for prefix, want := range map[string][]string{
		"":     {"", "Q", "p", "q", "q/1", "q/10", "q/2", "r", "\xff"},
		"q":    {"q", "q/1", "q/10", "q/2"},
		"q/":   {"q/1", "q/10", "q/2"},
		"q/1":  {"q/1", "q/10"},
		"q/10": {"q/10"},
		"q/3":  nil, "/": nil, "q/100": nil, "\x00": nil,
		"\xff": {"\xff"},
	} {
		if got := s.Keys(prefix); !slices.Equal(got, want) {
			t.Errorf("Keys(%q): %q, not %q", prefix, got, want)
		}
	}
	spoilt := s.Keys("")
	for i := range spoilt {
		spoilt[i] = "spoilt"
	}
	if got := s.Keys("q/1"); !slices.Equal(got, []string{"q/1", "q/10"}) {
		t.Errorf("%q", got)
	}
}

// TestStoresBesideEachOther: of one disk, each in an area of its own.
func TestStoresBesideEachOther(t *testing.T) {
	d := disk(t, 14)
	one, other := makes(t, d, 0, 6), makes(t, d, 6, 8)
	for i := range 20 {
		one.Commit(put("a", x(i)), gone("b"))
		other.Commit(put("b", x(2*i)), gone("a"))
	}
	tells(t, one, map[string]string{"a": x(19)})
	tells(t, other, map[string]string{"b": x(38)})
	tells(t, opens(t, d, 0, 6), map[string]string{"a": x(19)})
	tells(t, opens(t, d, 6, 8), map[string]string{"b": x(38)})
}
