package spool

import (
	"fmt"
	"maps"
	"math/rand"
	"slices"
	"testing"

	"mailguard/api"
	"mailguard/retry"
	"mailguard/sector"
	"mailguard/wal"
)

// tale: a queue in a store whose power may fail, beside one that is kept in lists; what came at all, by texts that are each another one.
type tale struct {
	*testing.T
	*rand.Rand
	disk  *sector.Disk
	store *wal.Store
	size  int
	queue
	now, came int
	used      map[int]string
	counts    map[string]int
}

func newTale(t *testing.T, seed int64) *tale {
	a := &tale{T: t, Rand: rand.New(rand.NewSource(seed)), queue: queue{items: map[int]Item{}}, used: map[int]string{}, counts: map[string]int{}}
	a.size = 12 + 2*a.Intn(40)
	a.disk, a.store = disk(t, a.size)
	if a.Intn(3) == 0 {
		commits(t, a.store, others()[20+a.Intn(10)])
	}
	return a
}

// commit commits changes, or has the power fail in that; then the store is opened again. It tells whether they are done; if not, nothing is.
func (a *tale) commit(l []wal.Change, behind queue) {
	a.Helper()
	cut := a.Intn(3) == 0
	if cut {
		a.disk.Arm(api.Cut{At: 1 + a.Intn(4), Torn: a.Intn(65)})
	}
	switch e := a.store.Commit(l...); {
	case e == api.OK:
		a.disk.Arm(api.Cut{})
		a.queue = behind
		a.counts["done"]++
	case e == api.ErrFull:
		a.disk.Arm(api.Cut{})
		a.counts["full"]++
	case cut && e == api.ErrDown:
		a.disk.Start()
		a.open()
		if told := slowQueue(a.store); told.last == behind.last && maps.Equal(told.items, behind.items) {
			a.queue = behind
			a.counts["done, and cut"]++
		} else {
			a.counts["cut"]++
		}
	default:
		a.Fatal(e)
	}
}

func (a *tale) open() {
	s, e := wal.Open(a.disk, 0, a.size)
	if e != api.OK {
		a.Fatal(e)
	}
	a.store = s
}

// behind is a queue like it, that goes its own way.
func (a *tale) behind() queue { return queue{items: maps.Clone(a.items), last: a.last} }

func (a *tale) add() {
	q := a.behind()
	var l []Item
	for range a.Intn(4) {
		a.came++
		i := item(fmt.Sprint("text", a.came), turn(a.now, 0, a.now+a.Intn(3)))
		i.Id = a.Intn(100) - 50
		l = append(l, i)
		q.last++
		i.Id = q.last
		q.items[i.Id] = i
	}
	changes, e := Add(a.store, l...)
	if e != api.OK || len(l) == 0 && len(changes) != 0 || len(l) > 0 && len(changes) != len(l)+1 {
		a.Fatal(len(l), len(changes), e)
	}
	if wrong := wrongItems()[a.Intn(100)]; a.Intn(5) == 0 {
		comesNot(a.T, a.store, api.ErrRange, append(l, wrong)...)
	}
	a.commit(changes, q)
}

func (a *tale) drop(id int) {
	q := a.behind()
	delete(q.items, id)
	a.commit([]wal.Change{Drop(id)}, q)
}

func (a *tale) fail(id int) {
	q := a.behind()
	i, there := a.items[id]
	next, over, want := retry.Failed(i.Turn, a.now)
	c, gone, e := Failed(a.store, id, a.now)
	if !there {
		over, want = false, api.ErrNone
	}
	if gone != over || e != want {
		a.Fatal(id, a.now, gone, e)
	}
	if e != api.OK {
		if c != (wal.Change{}) {
			a.Fatalf("%+v", c)
		}
		return
	}
	i.Turn = next
	q.items[id] = i
	if over {
		delete(q.items, id)
		a.counts["expired"]++
	}
	a.commit([]wal.Change{c}, q)
}

// check holds all that a queue tells against the lists, and that each number was only ever one item's.
func (a *tale) check() {
	a.Helper()
	tells(a.T, a.store, a.list()...)
	for _, now := range []int{0, a.now - 5, a.now, a.now + 9} {
		want, there := a.ready(now)
		if i, ok := Ready(a.store, now); i != want || ok != there {
			a.Fatal("Ready", now, brief(i), brief(want))
		}
	}
	seen := map[string]int{}
	for _, i := range List(a.store) {
		seen[i.Text]++
		if was, ok := a.used[i.Id]; ok && was != i.Text || seen[i.Text] > 1 {
			a.Fatal("used again:", i.Id, was, i.Text)
		}
		a.used[i.Id] = i.Text
	}
	for id := range a.used {
		if _, there := a.items[id]; !there {
			if i, ok := Get(a.store, id); ok || i != (Item{}) {
				a.Fatal("there again:", brief(i))
			}
		}
	}
}

func TestTales(t *testing.T) {
	counts := map[string]int{}
	for seed := range int64(120) {
		a := newTale(t, seed)
		for range 60 {
			a.now += a.Intn(4)
			ids := slices.Collect(maps.Keys(a.items))
			slices.Sort(ids)
			ids = append(ids, a.last+1, a.Intn(a.last+2), 0)
			id := ids[a.Intn(len(ids))]
			switch a.Intn(6) {
			case 0, 1:
				a.add()
			case 2:
				a.drop(id)
			case 3, 4:
				a.fail(id)
			case 5:
				a.open()
			}
			a.check()
			if t.Failed() {
				t.Fatal("tale", seed)
			}
		}
		for kind, count := range a.counts {
			counts[kind] += count
		}
	}
	for _, kind := range []string{"done", "full", "cut", "done, and cut", "expired"} {
		if counts[kind] < 40 {
			t.Error("so few of a kind:", counts)
		}
	}
}

// TestCutOfAnAdd cuts each write of the commit by which items come: all are there, with the last number, or none is; behind that they come once.
func TestCutOfAnAdd(t *testing.T) {
	l := few(4)
	for at := 1; at < 12; at++ {
		for torn := 0; torn <= 64; torn += 8 {
			d, s := disk(t, 80)
			adds(t, s, l[0])
			changes, _ := Add(s, l[1:]...)
			d.Arm(api.Cut{At: at, Torn: torn})
			e := s.Commit(changes...)
			d.Start()
			d.Arm(api.Cut{})
			s, f := wal.Open(d, 0, 80)
			if f != api.OK {
				t.Fatal(f)
			}
			switch len(List(s)) {
			case 1:
				comes(t, s, 2, l[1:]...)
				adds(t, s, l[1:]...)
			case 4:
			default:
				t.Error(at, torn, briefs(List(s)))
			}
			if e == api.OK && len(List(s)) != 4 {
				t.Error(at, torn, "lost")
			}
			tells(t, s, numbered(1, l...)...)
			comes(t, s, 5, l[0])
		}
	}
}

// TestNothingIsWritten: none of the calls writes, nor does one of them need the power.
func TestNothingIsWritten(t *testing.T) {
	d, s := disk(t, 80)
	adds(t, s, few(3)...)
	for _, off := range []bool{false, true} {
		writes := d.Writes()
		tells(t, s, numbered(1, few(3)...)...)
		comes(t, s, 4, few(2)...)
		comesNot(t, s, api.ErrRange, few(1)[0], Item{From: x(256)})
		asksNone(t, s)
		fails(t, s, 1, 3, has("q/00000001", slowText(turned(few(1)[0], turn(0, 1, 5)))), false, api.OK)
		Drop(1)
		if i, ok := Ready(s, 3); !ok || i.Id != 1 {
			t.Error(brief(i))
		}
		if d.Writes() != writes || d.Down() != off {
			t.Error("written")
		}
		if !off {
			d.Arm(api.Cut{At: 1})
			d.Write(79, "")
		}
	}
}

// turned is an item of another turn.
func turned(i Item, other retry.Turn) Item {
	i.Turn = other
	return i
}
