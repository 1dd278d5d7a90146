package wal

import (
	"maps"
	"strings"
	"testing"

	"mailguard/api"
)

// torn: how many bytes are there, as a cut may say it.
func torn() []int {
	l := []int{-1, 65, 1000}
	for there := range 65 {
		l = append(l, there)
	}
	return l
}

// TestCutOfAMake cuts each write of a Make, over nothing and over a store.
func TestCutOfAMake(t *testing.T) {
	for _, commits := range []int{0, 1, 2, 3, 5} {
		for _, a := range [][2]int{{0, 4}, {1, 6}, {4, 8}} {
			for at := 1; at <= 5; at++ {
				for _, there := range torn() {
					d := scribbled(t, 12, strings.Repeat("o", 64))
					for i := range commits {
						if i == 0 {
							makes(t, d, a[0], a[1])
						}
						opens(t, d, a[0], a[1]).Commit(put("a", x(i)))
					}
					want, count, cut := done(lies(d), slowMake(a[0], a[1]), api.Cut{At: at, Torn: there})
					d.Arm(api.Cut{At: at, Torn: there})
					writes := d.Writes()
					s, e := Make(d, a[0], a[1])
					if cut != (e == api.ErrDown) || cut != (s == nil) || !cut && e != api.OK || cut != (at < 5) {
						t.Fatal(a, at, there, e)
					}
					same(t, d, want)
					if d.Writes() != writes+count || d.Down() != cut {
						t.Errorf("%d %d %d: %d writes", a, at, there, d.Writes()-writes)
					}
					d.Start()
					d.Arm(api.Cut{})
					agrees(t, d, a[0], a[1])
					s = makes(t, d, a[0], a[1])
					s.Commit(put("b", "2"))
					tells(t, opens(t, d, a[0], a[1]), map[string]string{"b": "2"})
				}
			}
		}
	}
}

// tale: commits that are made, and one that is cut: how many writes it has, and in which half its record is.
type tale struct {
	name        string
	from, count int
	ahead       [][]Change
	last        []Change
	writes      int
	half        int
}

var tales = []tale{
	{"of one sector", 0, 8, [][]Change{{put("a", "1")}}, []Change{put("a", "2"), put("b", "")}, 2, 0},
	{"of the first commit", 2, 8, nil, []Change{put("a", "1")}, 2, 0},
	{"of some sectors", 1, 12, [][]Change{{put("a", "1"), put("b", "2")}}, []Change{put("a", x(90)), gone("b")}, 4, 0},
	{"to the last sector", 0, 8, [][]Change{{put("a", "1")}}, []Change{putOf("a", 17+64)}, 2, 0},
	{"of all that is left", 0, 12, [][]Change{{put("a", "1")}}, []Change{put("a", x(170)), put("c", x(20))}, 4, 0},
	{"over", 0, 4, [][]Change{{put("a", "1")}}, []Change{put("b", "2")}, 3, 1},
	{"over, of some sectors", 1, 12, [][]Change{{put("a", x(100))}, {put("b", "2")}}, []Change{put("a", x(120)), gone("b"), put("c", "3")}, 5, 1},
	{"over, to the last sector", 0, 8, [][]Change{{put("a", "1")}}, []Change{put("a", x(200))}, 5, 1},
	{"over and back", 2, 4, [][]Change{{put("a", "1")}, {put("b", "2")}, {gone("a")}}, []Change{put("a", "3")}, 3, 0},
	{"behind going over", 0, 12, [][]Change{{put("a", "1")}, {put("b", x(150))}, {put("c", "3")}}, []Change{gone("c"), put("a", "4")}, 2, 1},
	{"that changes nothing", 0, 8, [][]Change{{put("a", "1")}}, []Change{put("a", "1"), gone("b")}, 2, 0},
	{"of all that goes", 3, 6, [][]Change{{put("a", "1")}, {put("b", "1")}}, []Change{gone("a"), gone("b")}, 3, 1},
}

func (a tale) tell(t *testing.T) *pair {
	t.Helper()
	p := pairOf(t, 14, a.from, a.count)
	for _, l := range a.ahead {
		p.commits(l...)
	}
	return p
}

func (p *pair) values() map[string]string { return p.knows().values }

// TestCutOfACommit cuts each of a commit's writes, with each torn: opened again, the store is as ahead of it, or as behind it; and goes on.
func TestCutOfACommit(t *testing.T) {
	for _, a := range tales {
		whole := a.tell(t)
		before := whole.values()
		whole.commits(a.last...)
		behind := whole.values()
		if whole.knows().begin != a.from+a.half*a.count/2 {
			t.Error(a.name, "in the wrong half")
		}
		for at := 1; at <= a.writes+1; at++ {
			for _, there := range torn() {
				p := a.tell(t)
				cut := p.commit(api.Cut{At: at, Torn: there}, a.last...)
				if cut != (at <= a.writes) {
					t.Fatal(a.name, at, there, cut)
				}
				want := before
				if at > a.writes || at == a.writes && there >= 64 {
					want = behind
				}
				if !maps.Equal(p.values(), want) {
					t.Errorf("cut %s, at %d, torn %d: %q, not %q", a.name, at, there, p.values(), want)
				}
				p.commits(a.last...)
				if !maps.Equal(p.values(), behind) {
					t.Errorf("cut %s, at %d, torn %d, then again: %q, not %q", a.name, at, there, p.values(), behind)
				}
				p.commits(put("d", "behind"), gone("a"))
				p.commits(gone("d"))
			}
		}
	}
}

// TestCutTwice cuts a commit, and then another one behind that, which is of other sectors.
func TestCutTwice(t *testing.T) {
	some := []int{0, 1, 13, 14, 46, 53, 62, 63, 64}
	for _, a := range tales {
		for at := 1; at <= a.writes; at++ {
			for _, there := range some {
				for again := 1; again <= 5; again++ {
					for _, second := range some {
						p := a.tell(t)
						p.commit(api.Cut{At: at, Torn: there}, a.last...)
						p.commit(api.Cut{At: again, Torn: second}, put("d", "other"), gone("b"))
						p.commits(put("e", "5"))
					}
				}
			}
		}
	}
}

// TestCutThatIsNotReached: what is armed stays so, from one commit to the next.
func TestCutThatIsNotReached(t *testing.T) {
	p := pairOf(t, 16, 0, 16)
	p.disk.Arm(api.Cut{At: 5, Torn: 0})
	for i, want := range []api.Errno{api.OK, api.OK, api.ErrDown} {
		if e := p.store.Commit(put("a", x(i))); e != want {
			t.Error(i, e)
		}
	}
	tells(t, p.store, nil)
	p.disk.Start()
	tells(t, opens(t, p.disk, 0, 16), map[string]string{"a": "x"})
}

// TestLongTales: commits of all kinds, cut or not, in orders from a short rule.
func TestLongTales(t *testing.T) {
	keys := []string{"", "a", "b", "ab", "\x00", "MG", "c"}
	for first := range uint32(300) {
		state := first
		roll := func(most int) int {
			state = state*1664525 + 1013904223
			return int(state>>8) % most
		}
		count := 4 + 2*roll(5)
		from := roll(4)
		p := pairOf(t, from+count+roll(2), from, count)
		for i := range 60 {
			var l []Change
			for range roll(4) {
				c := put(keys[roll(len(keys))], x(roll(9)*roll(12)))
				c.Gone = roll(3) == 0
				l = append(l, c)
			}
			c := api.Cut{}
			if roll(2) == 0 {
				c = api.Cut{At: roll(7), Torn: roll(66)}
			}
			p.commit(c, l...)
			if roll(9) == 0 {
				p.store = opens(t, p.disk, from, count)
			}
			if t.Failed() {
				t.Fatal(first, i)
			}
		}
	}
}
