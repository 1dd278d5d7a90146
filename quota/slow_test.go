package quota

import (
	"math/big"
	"slices"
	"testing"

	"mailguard/api"
)

// slow is a book made in another way: it notes each deed that was done, and works out anew from these what is taken, in numbers that never run over.
type slow struct {
	bounds []int
	done   []deed
}

// deed: a take or a give.
type deed struct {
	give     bool
	level, n int
}

func (s *slow) has(level int) bool {
	for i := range s.bounds {
		if i == level {
			return true
		}
	}
	return false
}

func (s *slow) taken(level int) *big.Int {
	sum := big.NewInt(0)
	for _, d := range s.done {
		n := big.NewInt(int64(d.n))
		if d.give {
			n.Neg(n)
		}
		if d.level == level {
			sum.Add(sum, n)
		}
	}
	return sum
}

func (s *slow) left(level int) *big.Int {
	if !s.has(level) {
		return big.NewInt(0)
	}
	return new(big.Int).Sub(big.NewInt(int64(s.bounds[level])), s.taken(level))
}

func (s *slow) total() *big.Int {
	sum := big.NewInt(0)
	for level := range s.bounds {
		sum.Add(sum, s.taken(level))
	}
	return sum
}

func (s *slow) do(d deed) api.Errno {
	n := big.NewInt(int64(d.n))
	switch {
	case !s.has(d.level):
		return api.ErrNone
	case n.Sign() < 0:
		return api.ErrRange
	case !d.give && n.Cmp(s.left(d.level)) > 0:
		return api.ErrFull
	case d.give && n.Cmp(s.taken(d.level)) > 0:
		return api.ErrRange
	}
	s.done = append(s.done, d)
	return api.OK
}

func (s *slow) copy() *slow {
	return &slow{bounds: slices.Clone(s.bounds), done: slices.Clone(s.done)}
}

func do(b *Book, d deed) api.Errno {
	if d.give {
		return b.Give(d.level, d.n)
	}
	return b.Take(d.level, d.n)
}

// alike checks all that a book tells against what the slow one does.
func alike(t *testing.T, b *Book, s *slow, tale ...deed) {
	t.Helper()
	for level := -1; level <= len(s.bounds); level++ {
		taken, left := b.Taken(level), b.Left(level)
		if s.taken(level).Cmp(big.NewInt(int64(taken))) != 0 || s.left(level).Cmp(big.NewInt(int64(left))) != 0 {
			t.Errorf("%v of %v: level %d: %d taken, %d left; not %d, %d", tale, s.bounds, level, taken, left, s.taken(level), s.left(level))
		}
	}
	if total := b.Total(); s.total().Cmp(big.NewInt(int64(total))) != 0 {
		t.Errorf("%v of %v: in all %d, not %d", tale, s.bounds, total, s.total())
	}
}
