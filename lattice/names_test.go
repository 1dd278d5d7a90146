package lattice

import (
	"math"
	"sync"
	"testing"

	"mailguard/api"
)

func TestNewOfWrongLattices(t *testing.T) {
	for what, l := range wrongLattices() {
		if n, e := New(l); n != nil || e != api.ErrForm {
			t.Error(what, e)
		}
	}
}

func namesOf(t *testing.T, l api.Lattice) *Names {
	t.Helper()
	n, e := New(l)
	if n == nil || e != api.OK {
		t.Fatal(e)
	}
	return n
}

func TestNamesAnswerAsTheLattice(t *testing.T) {
	for _, l := range []api.Lattice{small(), full(), {Levels: []string{"A"}}} {
		n := namesOf(t, l)
		for _, a := range append(someLabels(), api.Label{Level: 15, Comps: math.MaxUint64}, api.Label{Level: 2, Comps: 5}) {
			s, e := n.Print(a)
			if want, f := Print(l, a); s != want || e != f {
				t.Error(a, s, e)
			}
			b, e := n.Parse(s)
			if want, f := Parse(l, s); b != want || e != f {
				t.Error(s, b, e)
			}
		}
		for _, s := range wrongTexts() {
			b, e := n.Parse(s)
			if want, f := Parse(l, s); b != want || e != f {
				t.Errorf("%q %v %v", s, b, e)
			}
		}
	}
}

func TestNamesOfTexts(t *testing.T) {
	n := namesOf(t, small())
	for s, a := range texts() {
		if got, e := n.Parse(s); got != a || e != api.OK {
			t.Error(s, got, e)
		}
		if got, e := n.Print(a); got != s || e != api.OK {
			t.Error(a, got, e)
		}
	}
	for _, s := range wrongTexts() {
		if got, e := n.Parse(s); got != (api.Label{}) || e != api.ErrForm {
			t.Errorf("%q %v %v", s, got, e)
		}
	}
	if got, e := n.Print(api.Label{Level: 3}); got != "" || e != api.ErrLabel {
		t.Error(got, e)
	}
}

func TestAsked(t *testing.T) {
	n, other := namesOf(t, small()), namesOf(t, small())
	asked := func(want int) {
		t.Helper()
		if n.Asked() != want || n.Asked() != want {
			t.Error(n.Asked(), want)
		}
	}
	asked(0)
	n.Parse("LOW")
	asked(1)
	n.Print(api.Label{})
	asked(2)
	n.Parse("no label's")
	n.Print(api.Label{Level: -1})
	asked(4)
	Print(small(), api.Label{})
	Parse(small(), "LOW")
	other.Parse("LOW")
	asked(4)
	if other.Asked() != 1 {
		t.Error(other.Asked())
	}
}

func TestTableIsMadeWhenFirstAsked(t *testing.T) {
	for what, ask := range map[string]func(n *Names){
		"Print": func(n *Names) { n.Print(api.Label{}) },
		"Parse": func(n *Names) { n.Parse("LOW") },
	} {
		n := namesOf(t, small())
		if n.levels != nil || n.comps != nil {
			t.Error(what, "made by New")
		}
		ask(n)
		if len(n.levels) != 3 || len(n.comps) != 3 {
			t.Error(what, "not made")
		}
		// A second asking must find the same table, not make it anew.
		n.levels["OTHER"] = 1
		ask(n)
		if len(n.levels) != 4 {
			t.Error(what, "made twice")
		}
	}
}

func TestNamesKeepNothingHandedIn(t *testing.T) {
	for _, askedBefore := range []bool{false, true} {
		l := small()
		n := namesOf(t, l)
		if askedBefore {
			n.Parse("LOW")
		}
		l.Levels[2], l.Comps[1] = "OTHER", "ELSE"
		if s, e := n.Print(api.Label{Level: 2, Comps: 3}); s != "HIGH//A/B" || e != api.OK {
			t.Error(s, e)
		}
		if a, e := n.Parse("HIGH//A/B"); a != (api.Label{Level: 2, Comps: 3}) || e != api.OK {
			t.Error(a, e)
		}
		if a, e := n.Parse("OTHER//ELSE"); a != (api.Label{}) || e != api.ErrForm {
			t.Error(a, e)
		}
	}
}

func TestManyAskAtOnce(t *testing.T) {
	n := namesOf(t, full())
	var all sync.WaitGroup
	for range 8 {
		all.Go(func() {
			for level := range 16 {
				a := api.Label{Level: level, Comps: 1 << (level * 4)}
				s, _ := n.Print(a)
				if got, e := n.Parse(s); got != a || e != api.OK {
					t.Error(s, got, e)
				}
			}
		})
	}
	all.Wait()
	if n.Asked() != 8*16*2 {
		t.Error(n.Asked())
	}
}
