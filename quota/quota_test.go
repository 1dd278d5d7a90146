package quota

import (
	"math"
	"slices"
	"sync"
	"testing"

	"mailguard/api"
)

func made(t *testing.T, bounds ...int) *Book {
	t.Helper()
	b, e := New(bounds...)
	if b == nil || e != api.OK {
		t.Fatalf("New(%v): %v %d", bounds, b, e)
	}
	return b
}

func does(t *testing.T, b *Book, d deed, want api.Errno) {
	t.Helper()
	if e := do(b, d); e != want {
		t.Errorf("%v: %d, not %d", d, e, want)
	}
}

// tells checks what a book tells of its levels, in all, and beside them.
func tells(t *testing.T, b *Book, taken, left []int) {
	t.Helper()
	total := 0
	for level := range taken {
		total += taken[level]
		if b.Taken(level) != taken[level] || b.Left(level) != left[level] {
			t.Errorf("level %d: %d taken, %d left; not %d, %d", level, b.Taken(level), b.Left(level), taken[level], left[level])
		}
	}
	if b.Total() != total {
		t.Errorf("in all %d, not %d", b.Total(), total)
	}
	for _, level := range []int{math.MinInt, -1 << 32, -2, -1, len(taken), len(taken) + 1, 16, 17, 1 << 32, math.MaxInt} {
		if level < 0 || level >= len(taken) {
			if b.Taken(level) != 0 || b.Left(level) != 0 {
				t.Errorf("there is no level %d: %d taken, %d left", level, b.Taken(level), b.Left(level))
			}
		}
	}
}

// row is a list of so many equal numbers.
func row(count, n int) []int { return slices.Repeat([]int{n}, count) }

func TestNew(t *testing.T) {
	for count := 1; count <= 16; count++ {
		for _, bound := range []int{0, 1, 2, 1<<31 - 1, 1 << 31, 1 << 32, 1<<40 - 1, 1 << 40} {
			tells(t, made(t, row(count, bound)...), row(count, 0), row(count, bound))
		}
	}
	tells(t, made(t, 5, 0, 1<<40, 7), row(4, 0), []int{5, 0, 1 << 40, 7})
}

func TestNewRefused(t *testing.T) {
	lists := [][]int{nil, {}, row(17, 0), row(17, 5), row(17, -1), row(18, 1), row(32, 1), row(256, 1), row(1<<16+1, 0)}
	for _, bad := range []int{-1, -2, math.MinInt, math.MinInt + 1, -1 << 40, 1<<40 + 1, 1 << 41, 1 << 62, math.MaxInt} {
		for count := 1; count <= 16; count++ {
			for at := range count {
				list := row(count, 3)
				list[at] = bad
				lists = append(lists, list)
			}
		}
	}
	for _, list := range lists {
		if b, e := New(list...); b != nil || e != api.ErrRange {
			t.Errorf("New(%v): %v %d", list[:min(len(list), 17)], b, e)
		}
	}
}

// TestBoundsAreTheCallers: they are neither changed nor kept, nor is the room behind them.
func TestBoundsAreTheCallers(t *testing.T) {
	bounds := []int{1, 2, 3, 4}
	b := made(t, bounds[:2]...)
	does(t, b, deed{false, 0, 1}, api.OK)
	if !slices.Equal(bounds, []int{1, 2, 3, 4}) {
		t.Error("changed:", bounds)
	}
	bounds[0], bounds[1] = 9, 0
	tells(t, b, []int{1, 0}, []int{0, 2})
}

func TestTakeAndGive(t *testing.T) {
	b := made(t, 5)
	for i, x := range []struct {
		deed
		want  api.Errno
		taken int
	}{
		{deed{true, 0, 1}, api.ErrRange, 0},
		{deed{true, 0, 0}, api.OK, 0},
		{deed{false, 0, 0}, api.OK, 0},
		{deed{false, 0, 6}, api.ErrFull, 0},
		{deed{false, 0, 2}, api.OK, 2},
		{deed{false, 0, 4}, api.ErrFull, 2},
		{deed{true, 0, 3}, api.ErrRange, 2},
		{deed{false, 0, 3}, api.OK, 5},
		{deed{false, 0, 0}, api.OK, 5},
		{deed{false, 0, 1}, api.ErrFull, 5},
		{deed{true, 0, 0}, api.OK, 5},
		{deed{true, 0, 6}, api.ErrRange, 5},
		{deed{true, 0, 1}, api.OK, 4},
		{deed{false, 0, 2}, api.ErrFull, 4},
		{deed{false, 0, 1}, api.OK, 5},
		{deed{true, 0, 5}, api.OK, 0},
		{deed{true, 0, 1}, api.ErrRange, 0},
		{deed{false, 0, 5}, api.OK, 5},
	} {
		if e := do(b, x.deed); e != x.want || b.Taken(0) != x.taken || b.Left(0) != 5-x.taken || b.Total() != x.taken {
			t.Errorf("%d: %v: %d, not %d; taken %d, not %d", i, x.deed, e, x.want, b.Taken(0), x.taken)
		}
	}
}

// TestErrorsInTheirOrder: no such level, then a number below 0, then what is too much.
func TestErrorsInTheirOrder(t *testing.T) {
	b := made(t, 3, 0)
	for _, give := range []bool{false, true} {
		for _, level := range []int{math.MinInt, -2, -1, 2, 3, 15, 16, 17, math.MaxInt} {
			for _, n := range []int{math.MinInt, -1, 0, 1, 4, math.MaxInt} {
				does(t, b, deed{give, level, n}, api.ErrNone)
			}
		}
		for level := range 2 {
			for _, n := range []int{math.MinInt, math.MinInt + 1, -1 << 40, -3, -1} {
				does(t, b, deed{give, level, n}, api.ErrRange)
			}
		}
	}
	for _, n := range []int{4, 1<<40 + 1, math.MaxInt - 3, math.MaxInt} {
		does(t, b, deed{false, 0, n}, api.ErrFull)
		does(t, b, deed{true, 0, n}, api.ErrRange)
	}
	does(t, b, deed{false, 0, 3}, api.OK)
	for _, n := range []int{4, 1<<40 + 1, math.MaxInt - 3, math.MaxInt} {
		does(t, b, deed{false, 0, n}, api.ErrFull)
		does(t, b, deed{true, 0, n}, api.ErrRange)
	}
	tells(t, b, []int{3, 0}, []int{0, 0})
}

// TestFirstAndLastLevel: of books of 1 to 16 levels, and the one behind the last.
func TestFirstAndLastLevel(t *testing.T) {
	for count := 1; count <= 16; count++ {
		b := made(t, row(count, 1)...)
		for level := range count {
			does(t, b, deed{false, level, 1}, api.OK)
			does(t, b, deed{false, level, 1}, api.ErrFull)
		}
		does(t, b, deed{false, count, 0}, api.ErrNone)
		does(t, b, deed{true, count, 0}, api.ErrNone)
		does(t, b, deed{false, -1, 0}, api.ErrNone)
		tells(t, b, row(count, 1), row(count, 0))
		for level := range count {
			does(t, b, deed{true, level, 1}, api.OK)
			does(t, b, deed{true, level, 1}, api.ErrRange)
		}
		tells(t, b, row(count, 0), row(count, 1))
	}
}

// TestGreatest: all 16 levels taken to the greatest bound, of which the total is 2^44.
func TestGreatest(t *testing.T) {
	b := made(t, row(16, 1<<40)...)
	for level := range 16 {
		does(t, b, deed{false, level, 1<<40 + 1}, api.ErrFull)
		does(t, b, deed{false, level, 1 << 40}, api.OK)
		does(t, b, deed{false, level, 1}, api.ErrFull)
		does(t, b, deed{false, level, math.MaxInt}, api.ErrFull)
	}
	tells(t, b, row(16, 1<<40), row(16, 0))
	if b.Total() != 1<<44 {
		t.Error(b.Total())
	}
	does(t, b, deed{true, 15, 1<<40 + 1}, api.ErrRange)
	does(t, b, deed{true, 15, 1 << 40}, api.OK)
	if b.Total() != 15<<40 {
		t.Error(b.Total())
	}
}

// TestLevelsPlayNoPart: what is asked between two calls of one level, at another one, changes nothing of it.
func TestLevelsPlayNoPart(t *testing.T) {
	between := []deed{{false, 0, 2}, {false, 0, 9}, {true, 0, 1}, {false, 2, 8}, {false, 2, 0}, {true, 2, 3}, {false, 2, 3}, {true, 2, 9}, {false, 3, 1}, {true, 0, -1}}
	alone, beside := made(t, 3, 4, 8), made(t, 3, 4, 8)
	for i, d := range []deed{{false, 1, 3}, {true, 1, 1}, {false, 1, 3}, {false, 1, 2}, {false, 1, 1}, {true, 1, 5}, {true, 1, 4}, {true, 1, 1}} {
		for _, other := range between {
			do(beside, other)
		}
		if e, want := do(beside, d), do(alone, d); e != want {
			t.Errorf("%d: %v: %d, not %d", i, d, e, want)
		}
		if beside.Taken(1) != alone.Taken(1) || beside.Left(1) != alone.Left(1) {
			t.Errorf("%d: %d taken, %d left; not %d, %d", i, beside.Taken(1), beside.Left(1), alone.Taken(1), alone.Left(1))
		}
	}
}

func TestCopy(t *testing.T) {
	b := made(t, 5, 0, 7)
	does(t, b, deed{false, 0, 2}, api.OK)
	does(t, b, deed{false, 2, 7}, api.OK)
	c := b.Copy()
	tells(t, c, []int{2, 0, 7}, []int{3, 0, 0})
	does(t, c, deed{false, 0, 3}, api.OK)
	does(t, c, deed{false, 0, 1}, api.ErrFull)
	does(t, c, deed{true, 2, 6}, api.OK)
	tells(t, b, []int{2, 0, 7}, []int{3, 0, 0})
	does(t, b, deed{true, 0, 2}, api.OK)
	tells(t, c, []int{5, 0, 1}, []int{0, 0, 6})
	tells(t, c.Copy().Copy(), []int{5, 0, 1}, []int{0, 0, 6})
	does(t, c, deed{false, 3, 0}, api.ErrNone)
}

// TestBooksAreApart: two books of the same bounds share nothing.
func TestBooksAreApart(t *testing.T) {
	bounds := []int{2, 2}
	a, b := made(t, bounds...), made(t, bounds...)
	does(t, a, deed{false, 0, 2}, api.OK)
	tells(t, b, []int{0, 0}, []int{2, 2})
}

// TestNeverMoreThanTheBound: also when many take at one time, since what is taken is counted by atomics.
func TestNeverMoreThanTheBound(t *testing.T) {
	b := made(t, 1000, 5)
	var got, refused [8]int
	var all sync.WaitGroup
	for i := range 8 {
		all.Go(func() {
			for range 300 {
				if b.Take(0, 1) == api.OK {
					got[i]++
				} else {
					refused[i]++
				}
			}
		})
	}
	all.Wait()
	sum, rest := 0, 0
	for i := range 8 {
		sum, rest = sum+got[i], rest+refused[i]
	}
	if sum != 1000 || rest != 1400 {
		t.Errorf("%d were taken, %d refused", sum, rest)
	}
	tells(t, b, []int{1000, 0}, []int{0, 5})
}
