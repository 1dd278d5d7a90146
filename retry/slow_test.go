package retry

import (
	"math"
	"math/big"
	"testing"

	"mailguard/api"
)

// The slow way reckons in numbers that never run over, step by step as the chapter says it, and goes through times tick by tick.

var (
	slowZero = big.NewInt(0)
	slowLast = new(big.Int).Exp(big.NewInt(2), big.NewInt(40), nil)
)

func slow(n int) *big.Int { return big.NewInt(int64(n)) }

func slowTime(n *big.Int) bool { return slowZero.Cmp(n) != 1 && slowLast.Cmp(n) != -1 }

func slowRight(t Turn) bool {
	if !slowTime(slow(t.Born)) || !slowTime(slow(t.Due)) || slow(t.Due).Cmp(slow(t.Born)) == -1 {
		return false
	}
	for _, tries := range []int{0, 1, 2, 3, 4} {
		if tries == t.Tries {
			return true
		}
	}
	return false
}

func slowReady(t Turn, now int) bool { return slowRight(t) && slow(now).Cmp(slow(t.Due)) != -1 }

func slowFailed(t Turn, now int) (Turn, bool, api.Errno) {
	if !slowRight(t) {
		return Turn{}, false, api.ErrRange
	}
	if !slowTime(slow(now)) {
		return Turn{}, false, api.ErrRange
	}
	if !slowReady(t, now) {
		return Turn{}, false, api.ErrState
	}
	waits := map[int]int64{1: 2, 2: 4, 3: 8, 4: 16}
	wait, again := waits[t.Tries+1]
	behind := new(big.Int).Sub(slow(now), slow(t.Born))
	due := new(big.Int).Add(slow(now), big.NewInt(wait))
	if !again || behind.Cmp(slow(40)) == 1 || !slowTime(due) {
		return Turn{}, true, api.OK
	}
	return Turn{t.Born, t.Tries + 1, int(due.Int64())}, false, api.OK
}

// slowPlan asks at each tick whether the message may be tried then.
func slowPlan(now int) []int {
	if !slowTime(slow(now)) {
		return nil
	}
	var times []int
	t, over := Turn{now, 0, now}, false
	for tick := now; !over && slowTime(slow(tick)); tick++ {
		if slowReady(t, tick) {
			times = append(times, tick)
			t, over, _ = slowFailed(t, tick)
		}
	}
	return times
}

// edges are numbers at which something changes, and those beside them.
func edges() []int {
	all := []int{math.MinInt, math.MinInt + 1, -1 << 40, -1 << 32, -2, math.MaxInt - 1, math.MaxInt, 1 << 41, 1 << 62, 1 << 31, 1 << 32}
	for n := -1; n <= 6; n++ {
		all = append(all, n)
	}
	for _, from := range []int{16, 40, 1 << 39, 1<<40 - 41, 1<<40 - 16, 1 << 40} {
		for by := -2; by <= 2; by++ {
			all = append(all, from+by)
		}
	}
	return all
}

// fails checks what a failed try tells.
func fails(t *testing.T, turn Turn, now int, want Turn, over bool, e api.Errno) {
	t.Helper()
	if got, gone, g := Failed(turn, now); got != want || gone != over || g != e {
		t.Errorf("Failed(%v, %d): %v %v %d, not %v %v %d", turn, now, got, gone, g, want, over, e)
	}
}

// agrees checks a turn at a time against the slow way, and answers which case it was.
func agrees(t *testing.T, turn Turn, now int) (bool, api.Errno) {
	t.Helper()
	if got, want := Right(turn), slowRight(turn); got != want {
		t.Errorf("Right(%v): %v", turn, got)
	}
	if got, want := Ready(turn, now), slowReady(turn, now); got != want {
		t.Errorf("Ready(%v, %d): %v", turn, now, got)
	}
	want, over, e := slowFailed(turn, now)
	fails(t, turn, now, want, over, e)
	return over, e
}
