package spool

import (
	"maps"
	"math"
	"testing"

	"mailguard/api"
	"mailguard/retry"
	"mailguard/wal"
)

// fails checks what a failed try of the item of a number tells.
func fails(t *testing.T, s *wal.Store, id, now int, want wal.Change, over bool, e api.Errno) {
	t.Helper()
	before := whole(s)
	if c, gone, f := Failed(s, id, now); c != want || gone != over || f != e {
		t.Errorf("Failed(%d, %d): %+v %v %d, not %+v %v %d", id, now, c, gone, f, want, over, e)
	}
	if !maps.Equal(before, whole(s)) {
		t.Error("Failed changed the store")
	}
}

func TestFailed(t *testing.T) {
	s := store(t)
	i := item("text", turn(100, 0, 100))
	adds(t, s, few(4)...)
	adds(t, s, i)
	text := "\x00\x01a\x00\x01b\x00\x04text\x00\x00\x00\x00\x00\x00\x00\x64"
	waits := has("q/00000005", text+"\x00\x00\x00\x00\x00\x00\x00\x01\x00\x00\x00\x00\x00\x00\x00\x67")
	fails(t, s, 5, 101, waits, false, api.OK)
	fails(t, s, 5, 99, wal.Change{}, false, api.ErrState)
	commits(t, s, waits)
	tells(t, s, append(numbered(1, few(4)...), numbered(5, item("text", turn(100, 1, 103)))...)...)
	fails(t, s, 5, 102, wal.Change{}, false, api.ErrState)
	waits = has("q/00000005", text+"\x00\x00\x00\x00\x00\x00\x00\x02\x00\x00\x00\x00\x00\x00\x00\x6b")
	fails(t, s, 5, 103, waits, false, api.OK)
	fails(t, s, 5, 141, wal.Change{Key: "q/00000005", Gone: true}, true, api.OK)
	fails(t, s, 6, 103, wal.Change{}, false, api.ErrNone)
	commits(t, s, wal.Change{Key: "q/00000005", Gone: true})
	fails(t, s, 5, 141, wal.Change{}, false, api.ErrNone)
	tells(t, s, numbered(1, few(4)...)...)
	comes(t, s, 6, i)
}

// times are such as are, edges among them, and some that are none.
var times = []int{0, 1, 2, 30, 39, 40, 41, 42, 100, 255, 256, 258, 299, 300, 301, 1 << 24, 1 << 32, last - 17, last - 16, last - 15, last - 8, last - 4, last - 2, last - 1, last,
	-1, -40, -1 << 32, math.MinInt + 1, math.MinInt, last + 1, last + 2, 1 << 41, 1 << 62, math.MaxInt - 16, math.MaxInt}

// TestFailedAsItsTurn: of each turn at each time it is as layer 15 tells it.
func TestFailedAsItsTurn(t *testing.T) {
	turns := append([]retry.Turn{turn(last-40, 3, last-20), turn(last-41, 0, last), turn(0, 3, 40), turn(0, 4, 41), turn(last-4, 1, last-4), turn(last-3, 1, last-3)}, someTurns...)
	counts := map[api.Errno]int{}
	overs := 0
	for _, right := range turns {
		for _, i := range []Item{{Turn: right}, item("text", right), {From: x(255), To: x(255), Text: x(16384), Turn: right}} {
			s := store(t, has("q/00000001", slowText(few(1)[0])), has("q/99999999", slowText(i)), has("q/12345678", slowText(i)))
			for _, id := range []int{12345678, 99999999} {
				for _, now := range times {
					next, over, e := retry.Failed(right, now)
					want := wal.Change{}
					if e == api.OK && over {
						want = wal.Change{Key: Drop(id).Key, Gone: true}
						overs++
					} else if e == api.OK {
						waits := i
						waits.Turn = next
						want = has(Drop(id).Key, slowText(waits))
					}
					fails(t, s, id, now, want, over, e)
					counts[e]++
				}
			}
		}
	}
	if counts[api.OK] < 500 || overs < 300 || counts[api.OK]-overs < 100 || counts[api.ErrState] < 300 || counts[api.ErrRange] < 300 || len(counts) != 3 {
		t.Error("so few of an error:", counts, overs)
	}
}

// TestFailedErrors: which comes first, where several apply.
func TestFailedErrors(t *testing.T) {
	s := store(t)
	adds(t, s, item("text", turn(50, 0, 60)))
	for _, now := range []int{-1, math.MinInt, last + 1, math.MaxInt} {
		fails(t, s, 1, now, wal.Change{}, false, api.ErrRange)
		fails(t, s, 2, now, wal.Change{}, false, api.ErrNone)
		fails(t, s, 0, now, wal.Change{}, false, api.ErrNone)
		fails(t, s, -1, now, wal.Change{}, false, api.ErrNone)
		fails(t, s, 100000001, now, wal.Change{}, false, api.ErrNone)
	}
	for _, now := range []int{0, 49, 50, 59} {
		fails(t, s, 1, now, wal.Change{}, false, api.ErrState)
		fails(t, s, 2, now, wal.Change{}, false, api.ErrNone)
	}
	fails(t, s, 1, 60, has("q/00000001", slowText(item("text", turn(50, 1, 62)))), false, api.OK)
	fails(t, s, 1, 91, wal.Change{Key: "q/00000001", Gone: true}, true, api.OK)
}

// TestTriedTillItExpires: as soon as may be, from its coming to its end.
func TestTriedTillItExpires(t *testing.T) {
	for _, born := range []int{0, 7, 1 << 32, last - 100, last - 20, last - 1, last} {
		s := store(t)
		came, _ := retry.New(born)
		adds(t, s, few(1)[0], item("text", came))
		var tried []int
		for now := born; now <= min(born+100, last); now++ {
			i, ok := Get(s, 2)
			if !ok || !retry.Ready(i.Turn, now) {
				continue
			}
			c, over, e := Failed(s, 2, now)
			if e != api.OK || over != c.Gone {
				t.Fatal(born, now, e)
			}
			commits(t, s, c)
			tried = append(tried, now)
		}
		plan := retry.Plan(born)
		if len(tried) != len(plan) || tried[len(tried)-1] != plan[len(plan)-1] {
			t.Errorf("born %d: tried at %v, not %v", born, tried, plan)
		}
		tells(t, s, numbered(1, few(1)...)...)
	}
}
