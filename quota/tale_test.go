package quota

import (
	"math"
	"math/rand"
	"testing"

	"mailguard/api"
)

// play does the deeds with a book and a slow one, and checks them behind each.
func play(t *testing.T, bounds []int, tale []deed) {
	t.Helper()
	b, s := made(t, bounds...), &slow{bounds: bounds}
	for i, d := range tale {
		if e, want := do(b, d), s.do(d); e != want {
			t.Errorf("%v of %v: %d, not %d", tale[:i+1], bounds, e, want)
		}
		alike(t, b, s, tale[:i+1]...)
	}
}

func deeds(levels, numbers []int) []deed {
	var all []deed
	for _, level := range levels {
		for _, n := range numbers {
			all = append(all, deed{false, level, n}, deed{true, level, n})
		}
	}
	return all
}

// each plays all tales of so many of the deeds.
func each(t *testing.T, bounds []int, all []deed, count int, tale ...deed) {
	if count == 0 {
		play(t, bounds, tale)
		return
	}
	for _, d := range all {
		each(t, bounds, all, count-1, append(tale[:len(tale):len(tale)], d)...)
	}
}

func TestEachShortTale(t *testing.T) {
	each(t, []int{2, 1}, deeds([]int{-1, 0, 1, 2}, []int{-1, 0, 1, 2, 3}), 2)
	each(t, []int{2, 1}, deeds([]int{0, 1}, []int{0, 1, 2}), 4)
	each(t, []int{0}, deeds([]int{-1, 0, 1}, []int{-1, 0, 1}), 3)
	each(t, []int{3}, deeds([]int{0}, []int{1, 2, 3}), 5)
	huge := []int{math.MinInt, math.MinInt + 1, -1 << 40, 0, 1, 1<<40 - 1, 1 << 40, 1<<40 + 1, math.MaxInt - 1, math.MaxInt}
	each(t, []int{1 << 40, 0}, deeds([]int{0, 1}, huge), 2)
	each(t, []int{1 << 40, 1<<40 - 1}, deeds([]int{0, 1}, []int{1, 1<<40 - 1, 1 << 40}), 3)
}

// anyNumber answers a number that is often an edge of the bound.
func anyNumber(r *rand.Rand, bound int) int {
	switch r.Intn(8) {
	case 0:
		return -1 - r.Intn(3)
	case 1:
		return bound + r.Intn(2)
	case 2:
		return 0
	default:
		return r.Intn(bound/3 + 2)
	}
}

func TestLongTales(t *testing.T) {
	r := rand.New(rand.NewSource(9))
	for range 200 {
		bounds := make([]int, 1+r.Intn(16))
		for level := range bounds {
			bounds[level] = []int{0, 1, 7, 100, 1<<40 - 1, 1 << 40}[r.Intn(6)]
		}
		var tale []deed
		for range 60 {
			level := r.Intn(len(bounds)+2) - 1
			bound := bounds[min(max(level, 0), len(bounds)-1)]
			tale = append(tale, deed{r.Intn(5) < 2, level, anyNumber(r, bound)})
		}
		play(t, bounds, tale)
	}
}

// TestCopies: from each copy on, the one and the other go their own ways.
func TestCopies(t *testing.T) {
	r := rand.New(rand.NewSource(10))
	bounds := []int{5, 0, 1 << 40, 9}
	books, slows := []*Book{made(t, bounds...)}, []*slow{{bounds: bounds}}
	for range 300 {
		i := r.Intn(len(books))
		if len(books) < 12 && r.Intn(10) == 0 {
			books, slows = append(books, books[i].Copy()), append(slows, slows[i].copy())
		}
		level := r.Intn(6) - 1
		d := deed{r.Intn(2) == 0, level, anyNumber(r, bounds[min(max(level, 0), 3)])}
		if e, want := do(books[i], d), slows[i].do(d); e != want {
			t.Errorf("%v: %d, not %d", d, e, want)
		}
		for k := range books {
			alike(t, books[k], slows[k], d)
		}
	}
	if len(books) != 12 {
		t.Error("so few copies:", len(books))
	}
}

// TestRefusedChangesNothing: whatever is refused, all the levels stand as they were.
func TestRefusedChangesNothing(t *testing.T) {
	b := made(t, 4, 0, 1<<40, 6)
	for level, n := range []int{4, 0, 1, 3} {
		does(t, b, deed{false, level, n}, api.OK)
	}
	none := []int{math.MinInt, -17, -1, 4, 15, 16, 17, 1 << 32, 1<<32 + 1, math.MaxInt}
	refused := deeds(none, []int{math.MinInt, -1, 0, 1, math.MaxInt})
	refused = append(refused, deeds([]int{0, 1, 2, 3}, []int{math.MinInt, -1 << 40, -1, 1 << 40, 1<<40 + 1, math.MaxInt})...)
	refused = append(refused, deed{false, 0, 1}, deed{true, 0, 5}, deed{false, 1, 1}, deed{true, 1, 1}, deed{true, 2, 2}, deed{false, 3, 4}, deed{true, 3, 4})
	for _, d := range refused {
		if e := do(b, d); e == api.OK {
			t.Error(d, "isn't refused")
		}
		tells(t, b, []int{4, 0, 1, 3}, []int{0, 0, 1<<40 - 1, 3})
	}
}
