package retry

import (
	"math/rand"
	"slices"
	"testing"

	"mailguard/api"
)

// plans checks a plan, and against the slow way.
func plans(t *testing.T, now int, want ...int) {
	t.Helper()
	if got := Plan(now); !slices.Equal(got, want) {
		t.Errorf("Plan(%d): %v, not %v", now, got, want)
	}
	if got := slowPlan(now); !slices.Equal(got, want) {
		t.Errorf("Plan(%d): slowly %v, not %v", now, got, want)
	}
}

func TestPlan(t *testing.T) {
	plans(t, 0, 0, 2, 6, 14, 30)
	for _, now := range []int{1, 2, 40, 41, 100, 1<<31 - 1, 1 << 31, 1<<32 - 1, 1 << 39, last - 100} {
		plans(t, now, now, now+2, now+6, now+14, now+30)
	}
}

// TestPlanAtTheLastTimes: a try is planned, unless it would be behind the last time.
func TestPlanAtTheLastTimes(t *testing.T) {
	plans(t, last-31, last-31, last-29, last-25, last-17, last-1)
	plans(t, last-30, last-30, last-28, last-24, last-16, last)
	plans(t, last-29, last-29, last-27, last-23, last-15)
	plans(t, last-14, last-14, last-12, last-8, last)
	plans(t, last-13, last-13, last-11, last-7)
	plans(t, last-6, last-6, last-4, last)
	plans(t, last-5, last-5, last-3)
	plans(t, last-2, last-2, last)
	plans(t, last-1, last-1)
	plans(t, last, last)
	for by := range 60 {
		plans(t, last-by, slowPlan(last-by)...)
	}
}

func TestPlanOfNoTime(t *testing.T) {
	for _, now := range noTimes {
		plans(t, now)
	}
}

// TestPlanTryByTry: its times are those of New and Failed, one behind the other.
func TestPlanTryByTry(t *testing.T) {
	r := rand.New(rand.NewSource(152))
	nows := slices.Clone(someTimes)
	for range 500 {
		nows = append(nows, r.Intn(last+1), last-r.Intn(50))
	}
	for _, now := range nows {
		turn, e := New(now)
		times := Plan(now)
		for i, time := range times {
			if e != api.OK || turn.Tries != i || turn.Due != time || !Ready(turn, time) || Ready(turn, time-1) {
				t.Errorf("Plan(%d): %v: the try %d is of %v, %d", now, times, i, turn, e)
			}
			over := false
			turn, over, e = Failed(turn, time)
			if over != (i == len(times)-1) {
				t.Errorf("Plan(%d): %v: expired behind the try %d: %v", now, times, i, over)
			}
		}
		if turn != (Turn{}) || e != api.OK || len(times) == 0 {
			t.Errorf("Plan(%d): %v: %v %d is left", now, times, turn, e)
		}
	}
}

func TestPlansAreApart(t *testing.T) {
	one, two := Plan(5), Plan(5)
	for i := range one {
		one[i] = -1
	}
	_ = append(one[:0], make([]int, cap(one))...)
	want := []int{5, 7, 11, 19, 35}
	if again := Plan(5); !slices.Equal(two, want) || !slices.Equal(again, want) {
		t.Error(two, again)
	}
}

// TestNeverLong: as soon as may be, no try is more than 40 ticks behind the message's coming, nor is there a sixth one.
func TestNeverLong(t *testing.T) {
	for _, now := range someTimes {
		times := Plan(now)
		if len(times) < 1 || len(times) > 5 || !slices.IsSorted(times) || times[0] != now || times[len(times)-1] > now+40 {
			t.Errorf("Plan(%d): %v", now, times)
		}
	}
}

// tried makes tries till it has expired, each so many ticks behind what may be, and answers how many there were, and when the last one was.
func tried(t *testing.T, now int, late func() int) (int, int) {
	t.Helper()
	turn, e := New(now)
	at, born := now, now
	for count := 1; count <= 5 && e == api.OK; count++ {
		at = min(turn.Due+late(), last)
		next, over, f := Failed(turn, at)
		if over {
			return count, at
		}
		if !Right(next) || next.Born != born || next.Tries != count || next.Due != at+1<<count {
			t.Fatalf("Failed(%v, %d): %v %v %d", turn, at, next, over, f)
		}
		turn, e = next, f
	}
	t.Errorf("born %d: tried 5 times, and %v %d is left", born, turn, e)
	return 6, at
}

// TestAtMostFiveTries: however late each is made; and a try behind the 40th tick is the last one.
func TestAtMostFiveTries(t *testing.T) {
	r := rand.New(rand.NewSource(153))
	counts := [7]int{}
	for range 20000 {
		born := []int{0, r.Intn(last + 1), last - r.Intn(60)}[r.Intn(3)]
		most := 1 + r.Intn(45)
		count, at := tried(t, born, func() int { return r.Intn(most) })
		counts[count]++
		if count == 5 && at-born > 40+16+44 {
			t.Errorf("born %d: tried at %d", born, at)
		}
	}
	if slices.Min(counts[1:6]) < 100 || counts[0]+counts[6] != 0 {
		t.Error("so many were tried so often:", counts)
	}
	for _, born := range someTimes {
		count, at := tried(t, born, func() int { return 0 })
		if count != len(Plan(born)) || at != Plan(born)[count-1] {
			t.Errorf("born %d: tried %d times, till %d", born, count, at)
		}
	}
}
