package spool

import (
	"bytes"
	"encoding/binary"
	"fmt"
	"maps"
	"math/big"
	"regexp"
	"slices"
	"strings"
	"testing"

	"mailguard/api"
	"mailguard/retry"
	"mailguard/sector"
	"mailguard/wal"
)

const last = 1 << 40

func x(count int) string { return strings.Repeat("x", count) }

func turn(born, tries, due int) retry.Turn { return retry.Turn{Born: born, Tries: tries, Due: due} }

// item is one without an Id, from a to b.
func item(text string, t retry.Turn) Item { return Item{From: "a", To: "b", Text: text, Turn: t} }

// brief tells an item so that its bytes are seen, of long ones the number.
func brief(i Item) string {
	short := func(s string) string {
		if len(s) > 40 {
			return fmt.Sprintf("%q..%d", s[:10], len(s)-10)
		}
		return fmt.Sprintf("%q", s)
	}
	return fmt.Sprintf("{%d %s %s %s %v}", i.Id, short(i.From), short(i.To), short(i.Text), i.Turn)
}

// slowRight asks one thing behind the other.
func slowRight(i Item) bool {
	for most, parts := range map[int][]string{255: {i.From, i.To}, 16384: {i.Text}} {
		for _, part := range parts {
			if len(part) > most {
				return false
			}
		}
	}
	return retry.Right(i.Turn)
}

// slowText lays an item's bytes by the library's means.
func slowText(i Item) string {
	var b bytes.Buffer
	for _, part := range []string{i.From, i.To, i.Text} {
		binary.Write(&b, binary.BigEndian, uint16(len(part)))
		b.WriteString(part)
	}
	binary.Write(&b, binary.BigEndian, []uint64{uint64(i.Turn.Born), uint64(i.Turn.Tries), uint64(i.Turn.Due)})
	return b.String()
}

// slowParse tries all ways in which a text could be cut, and looks which right item has just that text.
func slowParse(id int, s string) (Item, api.Errno) {
	rest := len(s) - 30
	for from := 0; from <= min(rest, 255) && id > 0; from++ {
		for to := 0; to <= min(rest-from, 255); to++ {
			i := Item{Id: id, From: s[2:][:from], To: s[4+from:][:to], Text: s[6+from+to : len(s)-24]}
			ok := true
			for at, n := range map[int]*int{24: &i.Turn.Born, 16: &i.Turn.Tries, 8: &i.Turn.Due} {
				big := new(big.Int).SetBytes([]byte(s[len(s)-at:][:8]))
				ok = ok && big.IsInt64()
				*n = int(big.Int64())
			}
			if ok && slowRight(i) && slowText(i) == s {
				return i, api.OK
			}
		}
	}
	return Item{}, api.ErrForm
}

// queue: what lies in a store's queue, as lists and numbers tell it.
type queue struct {
	items map[int]Item
	last  int
}

var itemKey = regexp.MustCompile(`^q/[0-9]{8}$`)

// slowQueue reads all of a store's keys; what isn't an item's is left out.
func slowQueue(s *wal.Store) queue {
	q := queue{items: map[int]Item{}}
	for key, value := range whole(s) {
		if key == "q" && regexp.MustCompile(`^[1-9][0-9]*$`).MatchString(value) {
			fmt.Sscan(value, &q.last)
		}
		if itemKey.MatchString(key) {
			id := 0
			for _, digit := range key[2:] {
				id = id*10 + strings.IndexRune("0123456789", digit)
			}
			if i, e := slowParse(id, value); e == api.OK {
				q.items[id] = i
			}
		}
	}
	return q
}

func (q queue) list() []Item {
	var l []Item
	for _, id := range slices.Sorted(maps.Keys(q.items)) {
		l = append(l, q.items[id])
	}
	return l
}

func (q queue) ready(now int) (Item, bool) {
	for _, i := range q.list() {
		if i.Turn.Due <= now {
			return i, true
		}
	}
	return Item{}, false
}

// whole: all keys of a store, and their values.
func whole(s *wal.Store) map[string]string {
	all := map[string]string{}
	for _, key := range s.Keys("") {
		all[key], _ = s.Get(key)
	}
	return all
}

// has is a change by which a key has a value.
func has(key, value string) wal.Change { return wal.Change{Key: key, Value: value} }

// disk is one, and a store on all of it.
func disk(t *testing.T, sectors int) (*sector.Disk, *wal.Store) {
	t.Helper()
	d, e := sector.New(sectors)
	if e != api.OK {
		t.Fatal(e)
	}
	s, e := wal.Make(d, 0, sectors)
	if e != api.OK {
		t.Fatal(e)
	}
	return d, s
}

// store is one of such keys.
func store(t *testing.T, l ...wal.Change) *wal.Store {
	t.Helper()
	_, s := disk(t, 4096)
	commits(t, s, l...)
	return s
}

func commits(t *testing.T, s *wal.Store, l ...wal.Change) {
	t.Helper()
	if e := s.Commit(l...); e != api.OK {
		t.Fatal(e)
	}
}

// adds has items come.
func adds(t *testing.T, s *wal.Store, l ...Item) {
	t.Helper()
	changes, e := Add(s, l...)
	if e != api.OK {
		t.Fatal(e)
	}
	commits(t, s, changes...)
}

// tells checks what a queue tells, and that telling changes nothing.
func tells(t *testing.T, s *wal.Store, want ...Item) {
	t.Helper()
	before := whole(s)
	if got := List(s); !slices.Equal(got, want) {
		t.Errorf("List: %d items, not %d: %v, not %v", len(got), len(want), briefs(got), briefs(want))
	}
	for _, i := range want {
		if got, ok := Get(s, i.Id); got != i || !ok {
			t.Errorf("Get(%d): %s %v, not %s", i.Id, brief(got), ok, brief(i))
		}
	}
	if !maps.Equal(before, whole(s)) {
		t.Error("List or Get changed the store")
	}
}

func briefs(l []Item) []string {
	var all []string
	for _, i := range l {
		all = append(all, brief(i))
	}
	return all
}
