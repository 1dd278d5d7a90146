// Package lattice is layer 1: labels, and which of them dominates which. See shared/doc/01-lattice.md.
package lattice

import (
	"slices"
	"strings"

	"mailguard/api"
)

// Right: is a lattice?
func Right(l api.Lattice) bool {
	if len(l.Levels) < 1 || len(l.Levels) > api.MaxLevels || len(l.Comps) > api.MaxComps {
		return false
	}
	seen := map[string]struct{}{}
	for _, name := range slices.Concat(l.Levels, l.Comps) {
		if _, twice := seen[name]; twice || !rightName(name) {
			return false
		}
		seen[name] = struct{}{}
	}
	return true
}

func rightName(name string) bool {
	if len(name) < 1 || len(name) > api.MaxName {
		return false
	}
	for i := range len(name) {
		if !rightByte(name[i]) {
			return false
		}
	}
	return true
}

func rightByte(c byte) bool {
	return c >= 'A' && c <= 'Z' || c >= '0' && c <= '9' || c == '-'
}

// In: is a label one of a lattice?
func In(l api.Lattice, a api.Label) bool { return Right(l) && has(l, a) }

// has tells whether a is a label of l, which the caller knows to be right.
func has(l api.Lattice, a api.Label) bool {
	// With 64 compartments nothing is left of the bits, so that any are right.
	return a.Level >= 0 && a.Level < len(l.Levels) && a.Comps>>len(l.Comps) == 0
}

// Dominates: does a label another one?
func Dominates(a, b api.Label) bool { return a.Level >= b.Level && b.Comps&^a.Comps == 0 }

// Join: of two labels.
func Join(a, b api.Label) api.Label {
	return api.Label{Level: max(a.Level, b.Level), Comps: a.Comps | b.Comps}
}

// Meet: of two labels.
func Meet(a, b api.Label) api.Label {
	return api.Label{Level: min(a.Level, b.Level), Comps: a.Comps & b.Comps}
}

// Print: a label's text.
func Print(l api.Lattice, a api.Label) (string, api.Errno) {
	if !Right(l) {
		return "", api.ErrForm
	}
	return printRight(l, a)
}

// Parse: and back.
func Parse(l api.Lattice, s string) (api.Label, api.Errno) {
	if !Right(l) {
		return api.Label{}, api.ErrForm
	}
	return parseWith(s, inList(l.Levels), inList(l.Comps))
}

// printRight prints a label of l, which the caller knows to be right.
func printRight(l api.Lattice, a api.Label) (string, api.Errno) {
	if !has(l, a) {
		return "", api.ErrLabel
	}
	var text strings.Builder
	text.WriteString(l.Levels[a.Level])
	between := "//"
	for bit, name := range l.Comps {
		if a.Comps>>bit&1 == 1 {
			text.WriteString(between)
			text.WriteString(name)
			between = "/"
		}
	}
	return text.String(), api.OK
}

// finder answers a name's number, so that one reader of texts serves lists and tables of names.
type finder func(name string) (int, bool)

func inList(names []string) finder {
	return func(name string) (int, bool) {
		at := slices.Index(names, name)
		return max(at, 0), at >= 0
	}
}

func parseWith(s string, level, comp finder) (api.Label, api.Errno) {
	name, rest, more := strings.Cut(s, "//")
	at, ok := level(name)
	if !ok {
		return api.Label{}, api.ErrForm
	}
	if !more {
		return api.Label{Level: at}, api.OK
	}
	comps, ok := parseComps(rest, comp)
	if !ok {
		return api.Label{}, api.ErrForm
	}
	return api.Label{Level: at, Comps: comps}, api.OK
}

func parseComps(s string, comp finder) (uint64, bool) {
	var comps uint64
	for name := range strings.SplitSeq(s, "/") {
		bit, ok := comp(name)
		// A label has one text: no compartment stands behind itself or one of a higher bit.
		if !ok || comps>>bit != 0 {
			return 0, false
		}
		comps |= 1 << bit
	}
	return comps, true
}
