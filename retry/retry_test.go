package retry

import (
	"math"
	"math/rand"
	"testing"

	"mailguard/api"
)

const last = 1 << 40

// noTimes are numbers that no time has.
var noTimes = []int{math.MinInt, math.MinInt + 1, -1 << 62, -1 << 41, -last - 1, -last, 1 - last, -1 << 32, -1 << 31, -41, -40, -2, -1, last + 1, last + 2, last + 40, 1 << 41, 1 << 62, math.MaxInt - 16, math.MaxInt - 1, math.MaxInt}

// someTimes are times, the first and the last one and those beside them among them.
var someTimes = []int{0, 1, 2, 39, 40, 41, 1<<31 - 1, 1 << 31, 1<<32 - 1, 1 << 32, 1 << 39, last - 41, last - 40, last - 17, last - 2, last - 1, last}

func TestRight(t *testing.T) {
	for _, born := range someTimes {
		for _, due := range someTimes {
			for tries := range 5 {
				if turn := (Turn{born, tries, due}); Right(turn) != (due >= born) {
					t.Errorf("Right(%v): %v", turn, Right(turn))
				}
			}
			for _, tries := range []int{math.MinInt, -1 << 32, -5, -2, -1, 5, 6, 7, 64, 1 << 32, 1<<32 + 1, math.MaxInt} {
				if turn := (Turn{born, tries, due}); Right(turn) {
					t.Errorf("%v is right", turn)
				}
			}
		}
	}
}

// TestRightTimes: neither Born nor Due is below 0 or above 2^40, and Due is not ahead of Born.
func TestRightTimes(t *testing.T) {
	for _, bad := range noTimes {
		for tries := range 5 {
			turns := []Turn{{bad, tries, bad}}
			for _, time := range someTimes {
				turns = append(turns, Turn{bad, tries, time}, Turn{time, tries, bad})
			}
			for _, turn := range turns {
				if Right(turn) {
					t.Errorf("%v is right", turn)
				}
			}
		}
	}
	for _, born := range someTimes[1:] {
		for _, turn := range []Turn{{born, 0, born - 1}, {born, 0, 0}, {born, 4, born - 1}} {
			if Right(turn) {
				t.Errorf("%v is right", turn)
			}
		}
	}
	for _, turn := range []Turn{{}, {0, 4, 0}, {0, 0, last}, {last, 4, last}, {7, 0, 1000}, {7, 1, 7}} {
		if !Right(turn) {
			t.Errorf("%v isn't right", turn)
		}
	}
}

func TestNew(t *testing.T) {
	for _, now := range someTimes {
		turn, e := New(now)
		if turn != (Turn{Born: now, Tries: 0, Due: now}) || e != api.OK {
			t.Errorf("New(%d): %v %d", now, turn, e)
		}
		if !Right(turn) || !Ready(turn, now) || Ready(turn, now-1) || !Ready(turn, now+1) {
			t.Errorf("New(%d) isn't such that it may be tried from then on", now)
		}
	}
	for _, now := range noTimes {
		if turn, e := New(now); turn != (Turn{}) || e != api.ErrRange {
			t.Errorf("New(%d): %v %d", now, turn, e)
		}
	}
}

func TestReady(t *testing.T) {
	for _, due := range someTimes {
		for tries := range 5 {
			for _, born := range []int{0, due / 2, due} {
				turn := Turn{born, tries, due}
				for _, now := range []int{math.MinInt, -1, 0, due - 41, due - 2, due - 1} {
					if now < due && Ready(turn, now) {
						t.Errorf("%v is ready at %d", turn, now)
					}
				}
				// Nothing is said of how late it may be.
				for _, now := range []int{due, due + 1, due + 41, last, last + 1, 1 << 62, math.MaxInt} {
					if !Ready(turn, now) {
						t.Errorf("%v isn't ready at %d", turn, now)
					}
				}
			}
		}
	}
}

// TestReadyAsksWhatIsRight: what isn't right is never ready.
func TestReadyAsksWhatIsRight(t *testing.T) {
	for _, turn := range wrongTurns() {
		for _, now := range append(someTimes, noTimes...) {
			if Ready(turn, now) {
				t.Errorf("%v is ready at %d", turn, now)
			}
		}
	}
}

// wrongTurns have each one thing that isn't right, or several.
func wrongTurns() []Turn {
	all := []Turn{{4, 0, 3}, {1, 0, 0}, {last, 0, last - 1}, {last, 4, 0}, {4, 5, 3}}
	for _, bad := range noTimes {
		all = append(all, Turn{bad, 0, bad}, Turn{bad, 1, 0}, Turn{bad, 4, last}, Turn{0, 0, bad}, Turn{last, 2, bad}, Turn{bad, bad, bad})
	}
	for _, tries := range []int{math.MinInt, math.MinInt + 1, -64, -2, -1, 5, 6, 62, 63, 64, 1 << 32, math.MaxInt - 1, math.MaxInt} {
		all = append(all, Turn{0, tries, 0}, Turn{last, tries, last}, Turn{3, tries, 8})
	}
	return all
}

func TestFailed(t *testing.T) {
	for tries, wait := range []int{2, 4, 8, 16} {
		for _, born := range []int{0, 1, 100, 1 << 32, last - 100} {
			for behind := range 41 {
				now := born + behind
				for _, due := range []int{born, born + behind/2, now} {
					fails(t, Turn{born, tries, due}, now, Turn{born, tries + 1, now + wait}, false, api.OK)
				}
			}
		}
	}
}

// TestFailedTooLate: 40 ticks behind Born is in time, 41 is not.
func TestFailedTooLate(t *testing.T) {
	for tries, wait := range []int{2, 4, 8, 16} {
		for _, born := range []int{0, 7, 1 << 31, last - 56} {
			fails(t, Turn{born, tries, born}, born+39, Turn{born, tries + 1, born + 39 + wait}, false, api.OK)
			fails(t, Turn{born, tries, born + 40}, born+40, Turn{born, tries + 1, born + 40 + wait}, false, api.OK)
			for _, now := range []int{born + 41, born + 42, born + 56, last - 1, last} {
				fails(t, Turn{born, tries, born}, now, Turn{}, true, api.OK)
				fails(t, Turn{born, tries, now}, now, Turn{}, true, api.OK)
			}
		}
	}
	// Behind Born, not behind Due.
	fails(t, Turn{0, 1, 40}, 41, Turn{}, true, api.OK)
	fails(t, Turn{0, 1, 1000}, 1000, Turn{}, true, api.OK)
	fails(t, Turn{900, 1, 901}, 940, Turn{900, 2, 944}, false, api.OK)
}

// TestFifthTry: is the last one, however early it fails.
func TestFifthTry(t *testing.T) {
	for _, born := range someTimes {
		for _, behind := range []int{0, 1, 2, 30, 40, 41, 100} {
			if now := born + behind; now <= last {
				fails(t, Turn{born, 4, born}, now, Turn{}, true, api.OK)
				fails(t, Turn{born, 4, now}, now, Turn{}, true, api.OK)
			}
		}
	}
}

// TestDueAtTheLastTime: it may be the last time, and not behind that.
func TestDueAtTheLastTime(t *testing.T) {
	for tries, wait := range []int{2, 4, 8, 16} {
		for behind := range 41 {
			for _, at := range []int{last - wait - 1, last - wait} {
				fails(t, Turn{at - behind, tries, at}, at, Turn{at - behind, tries + 1, at + wait}, false, api.OK)
			}
			for now := last - wait + 1; now <= last; now++ {
				fails(t, Turn{now - behind, tries, now - behind}, now, Turn{}, true, api.OK)
			}
		}
	}
}

func TestFailedAheadOfDue(t *testing.T) {
	for tries := range 5 {
		for _, due := range someTimes[1:] {
			for _, born := range []int{0, due / 2, due} {
				for _, now := range []int{0, due / 2, due - 1} {
					fails(t, Turn{born, tries, due}, now, Turn{}, false, api.ErrState)
				}
			}
		}
	}
}

// TestFailedRefused: what isn't right, or isn't a time; also where it is ahead of Due, or has expired.
func TestFailedRefused(t *testing.T) {
	for _, turn := range wrongTurns() {
		for _, now := range append(someTimes, noTimes...) {
			fails(t, turn, now, Turn{}, false, api.ErrRange)
		}
	}
	for _, now := range noTimes {
		for _, turn := range []Turn{{}, {0, 4, 0}, {0, 0, 40}, {last, 0, last}, {last, 4, last}, {0, 3, last}, {5, 2, 9}} {
			fails(t, turn, now, Turn{}, false, api.ErrRange)
		}
	}
}

// TestEdges: all turns of edges, at times of edges.
func TestEdges(t *testing.T) {
	all := edges()
	counts := map[api.Errno]int{}
	for _, born := range all {
		for _, due := range all {
			for _, tries := range []int{math.MinInt, -1, 0, 1, 2, 3, 4, 5, math.MaxInt} {
				for _, now := range all {
					_, e := agrees(t, Turn{born, tries, due}, now)
					counts[e]++
				}
			}
		}
	}
	if counts[api.OK] < 1000 || counts[api.ErrState] < 1000 || counts[api.ErrRange] < 1000 {
		t.Error("so few of an error:", counts)
	}
}

// TestAnyTurn: close to one another, at the beginning, in the midst and at the end of time.
func TestAnyTurn(t *testing.T) {
	r := rand.New(rand.NewSource(151))
	counts := map[[2]int]int{}
	for range 50000 {
		from := []int{0, 1<<32 - 50, r.Intn(last), last - 100}[r.Intn(4)]
		turn := Turn{from + r.Intn(60) - 5, r.Intn(6), 0}
		turn.Due = turn.Born + r.Intn(50) - 3
		over, e := agrees(t, turn, turn.Due+r.Intn(50)-10)
		gone := 0
		if over {
			gone = 1
		}
		counts[[2]int{int(e), gone}]++
	}
	for _, kind := range [][2]int{{int(api.OK), 0}, {int(api.OK), 1}, {int(api.ErrState), 0}, {int(api.ErrRange), 0}} {
		if counts[kind] < 1000 {
			t.Error("so few of a kind:", counts)
		}
	}
}
