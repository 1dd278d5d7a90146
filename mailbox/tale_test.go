package mailbox

import (
	"fmt"
	"maps"
	"math/rand"
	"testing"

	"mailguard/api"
	"mailguard/sector"
	"mailguard/wal"
)

var (
	taleUsers = []string{"a", "an", "ann", "anna", "m", "s"}
	taleTags  = []string{"a", "ann", "low.1", "low.10", "low.2", "low", ".", "-", "m", "s"}
)

// tale: mailboxes in a store whose power may fail, beside some that are kept in maps.
type tale struct {
	*testing.T
	*rand.Rand
	disk   *sector.Disk
	store  *wal.Store
	size   int
	boxes  map[string]box
	counts map[string]int
}

func newTale(t *testing.T, seed int64) *tale {
	a := &tale{T: t, Rand: rand.New(rand.NewSource(seed)), boxes: map[string]box{}, counts: map[string]int{}}
	a.size = 16 + 2*a.Intn(60)
	a.disk, a.store = disk(t, a.size)
	for _, user := range taleUsers {
		a.boxes[user] = newBox()
	}
	if a.Intn(2) == 0 {
		l := others()
		commits(t, a.store, l[a.Intn(len(l))], l[a.Intn(len(l))])
	}
	return a
}

// commit commits what changes a user's box, or has the power fail in that: then it is done, or not.
func (a *tale) commit(l []wal.Change, user string, behind box) {
	a.Helper()
	cut := a.Intn(3) == 0
	if cut {
		a.disk.Arm(api.Cut{At: 1 + a.Intn(4), Torn: []int{0, 1, 63, 64, a.Intn(65)}[a.Intn(5)]})
	}
	switch e := a.store.Commit(l...); {
	case e == api.OK:
		a.disk.Arm(api.Cut{})
		a.boxes[user] = behind
		a.counts["done"]++
	case e == api.ErrFull:
		a.disk.Arm(api.Cut{})
		a.counts["full"]++
	case cut && e == api.ErrDown:
		a.disk.Start()
		a.open()
		if boxOf(a.store, user).same(behind) {
			a.boxes[user] = behind
			a.counts["done, and cut"]++
		} else {
			a.counts["cut"]++
		}
	default:
		a.Fatal(e)
	}
}

func (a *tale) open() {
	s, e := wal.Open(a.disk, 0, a.size)
	if e != api.OK {
		a.Fatal(e)
	}
	a.store = s
}

func (a *tale) deliver(user, tag string) {
	text := fmt.Sprint(user, tag, a.Intn(1000), x(a.Intn(200)))
	if a.boxes[user].came[tag] == 1 {
		comesNot(a.T, a.store, api.OK, user, tag, text)
		a.counts["again"]++
		return
	}
	changes, e := Deliver(a.store, user, tag, text)
	if e != api.OK || len(changes) != 2 {
		a.Fatal(len(changes), e)
	}
	b := a.boxes[user].copy()
	b.texts[tag], b.came[tag] = text, 1
	a.commit(changes, user, b)
}

func (a *tale) delete(user, tag string) {
	if _, ok := a.boxes[user].texts[tag]; !ok {
		isNone(a.T, a.store, api.ErrNone, user, tag)
		a.counts["none"]++
		return
	}
	changes, e := Delete(a.store, user, tag)
	if e != api.OK || len(changes) != 1 {
		a.Fatal(len(changes), e)
	}
	b := a.boxes[user].copy()
	delete(b.texts, tag)
	a.commit(changes, user, b)
}

// step does one thing, and asks all users.
func (a *tale) step() {
	user, tag := taleUsers[a.Intn(len(taleUsers))], taleTags[a.Intn(len(taleTags))]
	switch n := a.Intn(10); {
	case n < 6:
		a.deliver(user, tag)
	case n < 9:
		a.delete(user, tag)
	default:
		a.open()
	}
	for _, user := range taleUsers {
		tells(a.T, a.store, user, a.boxes[user], taleTags...)
	}
	for user, told := range boxes(a.store) {
		if a.boxes[user].texts != nil && !told.same(a.boxes[user]) {
			a.Fatalf("%q: %+v, not %+v", user, told, a.boxes[user])
		}
	}
}

func TestTales(t *testing.T) {
	counts := map[string]int{}
	for seed := range int64(60) {
		a := newTale(t, seed)
		for range 120 {
			a.step()
			if t.Failed() {
				t.Fatalf("in the tale %d", seed)
			}
		}
		for what, n := range a.counts {
			counts[what] += n
		}
	}
	for _, what := range []string{"done", "full", "cut", "done, and cut", "again", "none"} {
		if counts[what] < 10 {
			t.Errorf("%s: %d", what, counts[what])
		}
	}
}

// TestCutOfADelivery: in whichever write and behind whichever byte, a message is there and came, or neither.
func TestCutOfADelivery(t *testing.T) {
	there, not := 0, 0
	for at := 1; at <= 12; at++ {
		for torn := range 65 {
			d, s := disk(t, 40)
			delivers(t, s, "ann", "a", "text")
			before := whole(s)
			d.Arm(api.Cut{At: at, Torn: torn})
			changes, e := Deliver(s, "ann", "b", x(300))
			if e != api.OK {
				t.Fatal(e)
			}
			s.Commit(changes...)
			d.Start()
			s, e = wal.Open(d, 0, 40)
			if e != api.OK {
				t.Fatal(e)
			}
			if text, e := Read(s, "ann", "b"); e == api.OK && text == x(300) && Came(s, "ann", "b") {
				there++
				comesNot(t, s, api.OK, "ann", "b", x(300))
			} else if !maps.Equal(before, whole(s)) || Came(s, "ann", "b") {
				t.Errorf("cut at %d, %d: %q", at, torn, whole(s))
			} else {
				not++
				comes(t, s, "ann", "b", x(300))
			}
		}
	}
	if there < 65 || not < 65 {
		t.Error(there, not)
	}
}

// TestFullStore: where a message has no room, nothing tells that it came.
func TestFullStore(t *testing.T) {
	_, s := disk(t, 20)
	for n := range 100 {
		tag := fmt.Sprint("low.", n)
		changes, e := Deliver(s, "ann", tag, x(100))
		if e != api.OK {
			t.Fatal(e)
		}
		switch e := s.Commit(changes...); e {
		case api.OK:
			continue
		case api.ErrFull:
		default:
			t.Fatal(e)
		}
		isNone(t, s, api.ErrNone, "ann", tag)
		if Came(s, "ann", tag) || n == 0 {
			t.Errorf("%q came", tag)
		}
		goes(t, s, "ann", List(s, "ann")[0])
		comes(t, s, "ann", tag, x(100))
		return
	}
	t.Error("the store wasn't full")
}
