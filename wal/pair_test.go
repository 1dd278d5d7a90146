package wal

import (
	"fmt"
	"maps"
	"slices"
	"strings"
	"testing"

	"mailguard/api"
	"mailguard/sector"
)

func put(key, value string) Change { return Change{Key: key, Value: value} }

func gone(key string) Change { return Change{Key: key, Gone: true} }

func x(count int) string { return strings.Repeat("x", count) }

// putOf answers a change whose text has so many bytes.
func putOf(key string, size int) Change { return put(key, x(size-5-len(key))) }

func disk(t *testing.T, sectors int) *sector.Disk {
	t.Helper()
	d, e := sector.New(sectors)
	if e != api.OK {
		t.Fatal(e)
	}
	return d
}

// say tells a thing, a long one only as far as one may want to read.
func say(thing any) string {
	s := fmt.Sprintf("%q", fmt.Sprint(thing))
	return s[:min(len(s), 200)]
}

// scribbled answers a disk whose sectors all hold the same bytes.
func scribbled(t *testing.T, sectors int, data string) *sector.Disk {
	t.Helper()
	d := disk(t, sectors)
	for at := range sectors {
		d.Write(at, data)
	}
	return d
}

// lies tells what is on a disk's sectors, whether its power is on or off.
func lies(d *sector.Disk) []string {
	c := d.Copy()
	c.Start()
	var l []string
	for at := range c.Size() {
		s, _ := c.Read(at)
		l = append(l, s)
	}
	return l
}

// same checks what is on a disk's sectors.
func same(t *testing.T, d *sector.Disk, want []string) {
	t.Helper()
	for at, got := range lies(d) {
		if got != want[at] {
			t.Errorf("on sector %d is\n%q, not\n%q", at, got, want[at])
		}
	}
}

// lie lays sectors on a disk, from one on.
func lie(t *testing.T, d *sector.Disk, at int, l []string) {
	t.Helper()
	for i, s := range l {
		if e := d.Write(at+i, s); e != api.OK {
			t.Fatal(at, i, e)
		}
	}
}

// tells checks all that a store tells.
func tells(t *testing.T, s *Store, want map[string]string) {
	t.Helper()
	all := slices.Sorted(maps.Keys(want))
	prefixes := []string{"", "a", "b", "ab", "\x00", "no such"}
	for _, prefix := range append(prefixes, all...) {
		var some []string
		for _, key := range all {
			if strings.HasPrefix(key, prefix) {
				some = append(some, key)
			}
		}
		if got := s.Keys(prefix); !slices.Equal(got, some) {
			t.Errorf("Keys(%s): %s, not %s", say(prefix), say(got), say(some))
		}
	}
	for _, key := range append([]string{"", "a", "b", "c", "no such"}, all...) {
		value, there := want[key]
		if got, ok := s.Get(key); got != value || ok != there {
			t.Errorf("Get(%s): %s %v, not %s %v", say(key), say(got), ok, say(value), there)
		}
	}
}

func makes(t *testing.T, d *sector.Disk, from, count int) *Store {
	t.Helper()
	s, e := Make(d, from, count)
	if s == nil || e != api.OK {
		t.Fatal(from, count, e)
	}
	return s
}

func opens(t *testing.T, d *sector.Disk, from, count int) *Store {
	t.Helper()
	s, e := Open(d, from, count)
	if s == nil || e != api.OK {
		t.Fatal(from, count, e)
	}
	return s
}

// opensNot checks that a disk's area is no store's.
func opensNot(t *testing.T, d *sector.Disk, from, count int, want api.Errno) {
	t.Helper()
	was := lies(d)
	if s, e := Open(d, from, count); s != nil || e != want {
		t.Errorf("Open(%d, %d): %d, not %d", from, count, e, want)
	}
	same(t, d, was)
}

// pair: a store, and what the slow one has of it: the sectors.
type pair struct {
	t           *testing.T
	disk        *sector.Disk
	store       *Store
	from, count int
	sectors     []string
}

func pairOf(t *testing.T, sectors, from, count int) *pair {
	t.Helper()
	d := disk(t, sectors)
	p := &pair{t: t, disk: d, store: makes(t, d, from, count), from: from, count: count}
	p.sectors = lies(d)
	return p
}

// knows tells what the slow store has.
func (p *pair) knows() known {
	p.t.Helper()
	k, ok := heard(p.sectors, p.from, p.count)
	if !ok {
		p.t.Fatal("the disk tells nothing")
	}
	return k
}

// commit commits, with a cut armed, and checks all that is to be seen of it; behind a cut the store is opened again. It answers whether there was one.
func (p *pair) commit(c api.Cut, l ...Change) bool {
	p.t.Helper()
	before := p.knows().values
	deeds, want := p.knows().deeds(l)
	sectors, count, cut := done(p.sectors, deeds, c)
	if cut {
		want = api.ErrDown
	}
	p.disk.Arm(c)
	writes := p.disk.Writes()
	if e := p.store.Commit(l...); e != want {
		p.t.Errorf("Commit(%s): %d, not %d", say(l), e, want)
	}
	if p.disk.Down() != cut || p.disk.Writes() != writes+count {
		p.t.Errorf("down %v, %d writes, not %v, %d", p.disk.Down(), p.disk.Writes()-writes, cut, count)
	}
	same(p.t, p.disk, sectors)
	p.sectors = sectors
	if cut {
		tells(p.t, p.store, nil)
		p.disk.Start()
		p.store = opens(p.t, p.disk, p.from, p.count)
	}
	p.disk.Arm(api.Cut{})
	now, behind := p.knows().values, maps.Clone(before)
	tells(p.t, p.store, now)
	slowChange(behind, slowText(l))
	// What the disk tells was worked out of its bytes; held against what the changes say, it is what is promised.
	isBefore, isBehind := maps.Equal(now, before), maps.Equal(now, behind)
	if !isBehind && want == api.OK || !isBefore && !(isBehind && cut) && want != api.OK {
		p.t.Errorf("%d, cut %v: %s, ahead of it %s", want, cut, say(now), say(before))
	}
	return cut
}

// commits commits without a cut.
func (p *pair) commits(l ...Change) {
	p.t.Helper()
	p.commit(api.Cut{}, l...)
}

// used checks in which half the records are, of which generation, how many, in how many sectors.
func (p *pair) used(half int, generation, records uint32, sectors int) {
	p.t.Helper()
	k := p.knows()
	if k.begin != p.from+half*p.count/2 || k.generation != generation || k.number != records || k.at-k.begin != sectors {
		p.t.Errorf("at %d are %d records of %d, in %d sectors", k.begin, k.number, k.generation, k.at-k.begin)
	}
}
