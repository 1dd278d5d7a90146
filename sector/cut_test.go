package sector

import (
	"fmt"
	"math"
	"slices"
	"strings"
	"testing"

	"mailguard/api"
)

// torn: how many bytes are there, by what a cut says of it.
var torn = map[int]int{0: 0, 1: 1, 2: 2, 32: 32, 63: 63, 64: 64, 65: 64, 99: 64, 128: 64, math.MaxInt: 64, -1: 0, -64: 0, math.MinInt: 0}

func TestExampleOfTheChapter(t *testing.T) {
	d := made(t, 2)
	d.Arm(api.Cut{At: 1, Torn: 1})
	stands(t, d, false, 0)
	writes(t, d, 0, "ab", api.ErrDown)
	stands(t, d, true, 1)
	d.Start()
	stands(t, d, false, 1)
	holds(t, d, "a"+strings.Repeat("\x00", 63), filled(""))
}

func TestTorn(t *testing.T) {
	was := strings.Repeat("o", 64)
	for says, there := range torn {
		for _, length := range []int{0, 1, 2, 31, 32, 63, 64} {
			d := made(t, 3)
			for at := range 3 {
				writes(t, d, at, was, api.OK)
			}
			d.Arm(api.Cut{At: 1, Torn: says})
			writes(t, d, 1, x(length), api.ErrDown)
			stands(t, d, true, 4)
			d.Start()
			holds(t, d, was, filled(x(length))[:there]+was[there:], was)
		}
	}
}

func TestEachTornOfTheFirstAndTheLastSector(t *testing.T) {
	for there := range 65 {
		for _, at := range []int{0, 1} {
			d := made(t, 2)
			want := []string{strings.Repeat("p", 64), filled("q")}
			writes(t, d, 0, want[0], api.OK)
			writes(t, d, 1, want[1], api.OK)
			d.Arm(api.Cut{At: 1, Torn: there})
			writes(t, d, at, "new bytes", api.ErrDown)
			d.Start()
			want[at] = filled("new bytes")[:there] + want[at][there:]
			holds(t, d, want...)
		}
	}
}

func TestCutAtALaterWrite(t *testing.T) {
	for _, number := range []int{1, 2, 3, 7, 100, 1000} {
		d := made(t, 2)
		writes(t, d, 1, "ahead", api.OK)
		d.Arm(api.Cut{At: number, Torn: 2})
		for i := 1; i < number; i++ {
			writes(t, d, 0, fmt.Sprint(i), api.OK)
			stands(t, d, false, 1+i)
		}
		writes(t, d, 1, "last", api.ErrDown)
		stands(t, d, true, 1+number)
		d.Start()
		reads(t, d, 1, filled("laead"))
		if number > 1 {
			reads(t, d, 0, filled(fmt.Sprint(number-1)))
		}
	}
}

func TestCutThatNeverComes(t *testing.T) {
	for _, at := range []int{101, 4097, 1 << 32, math.MaxInt} {
		d := made(t, 1)
		d.Arm(api.Cut{At: at, Torn: 0})
		for i := range 100 {
			writes(t, d, 0, fmt.Sprint(i), api.OK)
			stands(t, d, false, i+1)
		}
		holds(t, d, filled("99"))
	}
}

func TestArmedWithNothing(t *testing.T) {
	for _, at := range []int{0, -1, -2, math.MinInt} {
		for _, ahead := range []int{0, 1, 2} {
			d := made(t, 1)
			d.Arm(api.Cut{At: 3, Torn: 1})
			for range ahead {
				writes(t, d, 0, "a", api.OK)
			}
			d.Arm(api.Cut{At: at, Torn: 64})
			for range 5 {
				writes(t, d, 0, "b", api.OK)
			}
			stands(t, d, false, ahead+5)
			holds(t, d, filled("b"))
		}
	}
}

func TestArmedAgain(t *testing.T) {
	d := made(t, 1)
	d.Arm(api.Cut{At: 3, Torn: 64})
	writes(t, d, 0, "a", api.OK)
	writes(t, d, 0, "b", api.OK)
	d.Arm(api.Cut{At: 3, Torn: 64})
	writes(t, d, 0, "c", api.OK)
	writes(t, d, 0, "d", api.OK)
	stands(t, d, false, 4)
	d.Arm(api.Cut{At: 2, Torn: 1})
	writes(t, d, 0, "ee", api.OK)
	writes(t, d, 0, "ff", api.ErrDown)
	stands(t, d, true, 6)
	d.Start()
	holds(t, d, filled("fe"))
}

// TestArmedLate: a write that was ahead of an Arm isn't of its count.
func TestArmedLate(t *testing.T) {
	d := made(t, 1)
	for range 10 {
		writes(t, d, 0, "a", api.OK)
	}
	d.Arm(api.Cut{At: 2, Torn: 1})
	writes(t, d, 0, "bb", api.OK)
	writes(t, d, 0, "cc", api.ErrDown)
	stands(t, d, true, 12)
}

func TestStartInTheMidstOfACount(t *testing.T) {
	d := made(t, 1)
	d.Arm(api.Cut{At: 3, Torn: 1})
	for range 4 {
		writes(t, d, 0, "aa", api.OK)
		writes(t, d, 0, "bb", api.OK)
		d.Start()
	}
	stands(t, d, false, 8)
	writes(t, d, 0, "cc", api.OK)
	writes(t, d, 0, "dd", api.OK)
	writes(t, d, 0, "ee", api.ErrDown)
	stands(t, d, true, 11)
	d.Start()
	holds(t, d, filled("ed"))
}

func TestNothingIsArmedBehindACut(t *testing.T) {
	for _, number := range []int{1, 2, 3} {
		d := made(t, 2)
		d.Arm(api.Cut{At: number, Torn: 1})
		for range number - 1 {
			writes(t, d, 0, "a", api.OK)
		}
		writes(t, d, 0, "bb", api.ErrDown)
		writes(t, d, 0, "cc", api.ErrDown)
		d.Start()
		for i := range 5 {
			writes(t, d, 1, fmt.Sprint(i), api.OK)
			stands(t, d, false, number+1+i)
		}
		d.Start()
		for i := range 5 {
			writes(t, d, 1, fmt.Sprint(i), api.OK)
			stands(t, d, false, number+6+i)
		}
	}
}

func TestArmedWhilePowerIsOff(t *testing.T) {
	d := made(t, 1)
	d.Arm(api.Cut{At: 1, Torn: 1})
	writes(t, d, 0, "aa", api.ErrDown)
	d.Arm(api.Cut{At: 2, Torn: 2})
	stands(t, d, true, 1)
	writes(t, d, 0, "bb", api.ErrDown)
	refuses(t, d, 0, api.ErrDown)
	d.Start()
	reads(t, d, 0, filled("a"))
	writes(t, d, 0, "ccc", api.OK)
	writes(t, d, 0, "ddd", api.ErrDown)
	stands(t, d, true, 3)
	d.Arm(api.Cut{At: 1, Torn: 1})
	d.Arm(api.Cut{})
	d.Start()
	writes(t, d, 0, "eee", api.OK)
	stands(t, d, false, 4)
}

// TestRefusedIsNotCounted: neither of all writes nor of those that a cut goes by; nor is what is read.
func TestRefusedIsNotCounted(t *testing.T) {
	d := made(t, 1)
	refused := func() {
		writes(t, d, -1, "a", api.ErrRange)
		writes(t, d, 1, x(65), api.ErrRange)
		writes(t, d, 0, x(65), api.ErrLong)
		reads(t, d, 0, filled("old"))
		refuses(t, d, 1, api.ErrRange)
	}
	writes(t, d, 0, "old", api.OK)
	refused()
	stands(t, d, false, 1)
	d.Arm(api.Cut{At: 2, Torn: 1})
	refused()
	writes(t, d, 0, "old", api.OK)
	refused()
	refused()
	stands(t, d, false, 2)
	writes(t, d, 0, "new", api.ErrDown)
	stands(t, d, true, 3)
	writes(t, d, 0, "newer", api.ErrDown)
	stands(t, d, true, 3)
	d.Start()
	stands(t, d, false, 3)
	holds(t, d, filled("nld"))
}

func TestStartOfADiskThatIsOn(t *testing.T) {
	d := made(t, 1)
	d.Start()
	stands(t, d, false, 0)
	writes(t, d, 0, "a", api.OK)
	d.Start()
	d.Start()
	stands(t, d, false, 1)
	holds(t, d, filled("a"))
}

func TestCopy(t *testing.T) {
	d := made(t, 2)
	writes(t, d, 0, "a", api.OK)
	c := d.Copy()
	stands(t, c, false, 1)
	holds(t, c, filled("a"), filled(""))
	writes(t, c, 0, "of c", api.OK)
	writes(t, d, 1, "of d", api.OK)
	writes(t, d, 1, "again", api.OK)
	holds(t, c, filled("of c"), filled(""))
	holds(t, d, filled("a"), filled("again"))
	stands(t, c, false, 2)
	stands(t, d, false, 3)
	c.Arm(api.Cut{At: 1, Torn: 0})
	writes(t, d, 0, "b", api.OK)
	writes(t, c, 0, "b", api.ErrDown)
	stands(t, d, false, 4)
	stands(t, c, true, 3)
	d.Start()
	stands(t, c, true, 3)
	c.Start()
	holds(t, c, filled("of c"), filled(""))
	holds(t, d, filled("b"), filled("again"))
}

func TestCopyOfEachSize(t *testing.T) {
	for _, sectors := range []int{1, 4096} {
		d := made(t, sectors)
		writes(t, d, sectors-1, x(64), api.OK)
		c := d.Copy()
		if c == d || c.Size() != sectors {
			t.Error(sectors, c.Size())
		}
		writes(t, d, sectors-1, "", api.OK)
		reads(t, c, sectors-1, x(64))
		refuses(t, c, sectors, api.ErrRange)
	}
}

func TestCopyWithACutArmed(t *testing.T) {
	d := made(t, 1)
	writes(t, d, 0, "ahead", api.OK)
	d.Arm(api.Cut{At: 3, Torn: 1})
	writes(t, d, 0, "first", api.OK)
	c := d.Copy()
	d.Arm(api.Cut{})
	for range 5 {
		writes(t, d, 0, "of d", api.OK)
	}
	stands(t, d, false, 7)
	writes(t, c, 0, "of c", api.OK)
	stands(t, c, false, 3)
	writes(t, c, 0, "last", api.ErrDown)
	stands(t, c, true, 4)
	stands(t, d, false, 7)
	c.Start()
	holds(t, c, filled("lf c"))
	holds(t, d, filled("of d"))
}

func TestCopyWhosePowerIsOff(t *testing.T) {
	d := made(t, 1)
	d.Arm(api.Cut{At: 1, Torn: 1})
	writes(t, d, 0, "ab", api.ErrDown)
	c := d.Copy()
	stands(t, c, true, 1)
	writes(t, c, 0, "c", api.ErrDown)
	refuses(t, c, 0, api.ErrDown)
	d.Start()
	stands(t, d, false, 1)
	stands(t, c, true, 1)
	writes(t, d, 0, "of d", api.OK)
	c.Start()
	stands(t, c, false, 1)
	holds(t, c, filled("a"))
	writes(t, c, 0, "of c", api.OK)
	holds(t, d, filled("of d"))
}

// TestWhatWasWrittenStays: whichever of some writes is cut, and however it is torn, one sector alone is of new and old bytes.
func TestWhatWasWrittenStays(t *testing.T) {
	some := []struct {
		at   int
		data string
	}{{0, "zero"}, {3, x(64)}, {1, "one"}, {3, "three"}, {0, strings.Repeat("0", 63)}, {2, ""}, {3, strings.Repeat("3", 64)}, {1, ""}}
	for number := 1; number <= len(some)+1; number++ {
		for there := range 65 {
			d := made(t, 4)
			d.Arm(api.Cut{At: number, Torn: there})
			want := slices.Repeat([]string{filled("")}, 4)
			for i, w := range some {
				switch {
				case i+1 < number:
					writes(t, d, w.at, w.data, api.OK)
					want[w.at] = filled(w.data)
				case i+1 == number:
					writes(t, d, w.at, w.data, api.ErrDown)
					want[w.at] = filled(w.data)[:there] + want[w.at][there:]
				default:
					writes(t, d, w.at, w.data, api.ErrDown)
				}
			}
			stands(t, d, number <= len(some), min(number, len(some)))
			d.Start()
			holds(t, d, want...)
		}
	}
}
