package spool

import (
	"slices"
	"strconv"
	"strings"

	"mailguard/api"
	"mailguard/retry"
	"mailguard/wal"
)

const (
	// lastKey: where the number of the last item that ever came lies.
	lastKey = "q"
	// prefix: of the items' keys.
	prefix = "q/"
	digits = 8
	// lastId: the last number that has so many digits.
	lastId = 99999999
)

// Add: items come.
func Add(s *wal.Store, l ...Item) ([]wal.Change, api.Errno) {
	if slices.ContainsFunc(l, func(x Item) bool { return !Right(x) }) {
		return nil, api.ErrRange
	}
	last := lastOf(s)
	if last+len(l) > lastId {
		return nil, api.ErrFull
	}
	// The last number stays as it is then; there may be none yet.
	if len(l) == 0 {
		return nil, api.OK
	}
	changes := make([]wal.Change, 0, len(l)+1)
	for _, x := range l {
		last++
		x.Id = last
		changes = append(changes, put(x))
	}
	return append(changes, wal.Change{Key: lastKey, Value: strconv.Itoa(last)}), api.OK
}

// Get: the item of a number.
func Get(s *wal.Store, id int) (Item, bool) {
	text, ok := s.Get(keyOf(id))
	if !ok || id > lastId {
		return Item{}, false
	}
	x, e := Parse(id, text)
	return x, e == api.OK
}

// List: all.
func List(s *wal.Store) []Item {
	var l []Item
	for _, key := range s.Keys(prefix) {
		id, _ := strconv.Atoi(key[len(prefix):])
		// Where a number is told otherwise than by its eight digits, no item lies.
		if x, ok := Get(s, id); ok && keyOf(id) == key {
			l = append(l, x)
		}
	}
	return l
}

// Ready: the first one that may be tried.
func Ready(s *wal.Store, now int) (Item, bool) {
	for _, x := range List(s) {
		if retry.Ready(x.Turn, now) {
			return x, true
		}
	}
	return Item{}, false
}

// Drop: an item goes.
func Drop(id int) wal.Change { return wal.Change{Key: keyOf(id), Gone: true} }

// Failed: an item was tried.
func Failed(s *wal.Store, id, now int) (wal.Change, bool, api.Errno) {
	x, ok := Get(s, id)
	if !ok {
		return wal.Change{}, false, api.ErrNone
	}
	next, over, e := retry.Failed(x.Turn, now)
	if e != api.OK {
		return wal.Change{}, false, e
	}
	if over {
		return Drop(id), true, api.OK
	}
	x.Turn = next
	return put(x), false, api.OK
}

// put answers the change by which a right item lies there.
func put(x Item) wal.Change {
	text, _ := Print(x)
	return wal.Change{Key: keyOf(x.Id), Value: text}
}

// keyOf answers the key under which the item of a number lies; of a number that no item has, one under which none does, so that dropping it takes none away.
func keyOf(id int) string {
	number := strconv.Itoa(id)
	return prefix + strings.Repeat("0", max(digits-len(number), 0)) + number
}

// lastOf tells the number of the last item that ever came: 0, if none is told, and never more than the one behind lastId.
func lastOf(s *wal.Store) int {
	text, _ := s.Get(lastKey)
	if strings.HasPrefix(text, "0") {
		return 0
	}
	last := 0
	for i := range len(text) {
		if text[i] < '0' || text[i] > '9' {
			return 0
		}
		last = min(10*last+int(text[i]-'0'), lastId+1)
	}
	return last
}
