package lattice

import (
	"slices"
	"sync"
	"sync/atomic"

	"mailguard/api"
)

// Names: of a lattice.
type Names struct {
	lattice api.Lattice
	made    sync.Once
	levels  map[string]int
	comps   map[string]int
	asked   atomic.Int64
}

// New: of a lattice.
func New(l api.Lattice) (*Names, api.Errno) {
	if !Right(l) {
		return nil, api.ErrForm
	}
	kept := api.Lattice{Levels: slices.Clone(l.Levels), Comps: slices.Clone(l.Comps)}
	return &Names{lattice: kept}, api.OK
}

// Print: a label's text.
func (n *Names) Print(a api.Label) (string, api.Errno) {
	n.ask()
	return printRight(n.lattice, a)
}

// Parse: and back.
func (n *Names) Parse(s string) (api.Label, api.Errno) {
	n.ask()
	return parseWith(s, inTable(n.levels), inTable(n.comps))
}

// Asked: how often.
func (n *Names) Asked() int { return int(n.asked.Load()) }

func (n *Names) ask() {
	n.asked.Add(1)
	n.made.Do(func() {
		n.levels = numbers(n.lattice.Levels)
		n.comps = numbers(n.lattice.Comps)
	})
}

func numbers(names []string) map[string]int {
	table := make(map[string]int, len(names))
	for at, name := range names {
		table[name] = at
	}
	return table
}

func inTable(table map[string]int) finder {
	return func(name string) (int, bool) {
		at, ok := table[name]
		return at, ok
	}
}
