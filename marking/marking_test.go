package marking

import (
	"math"
	"slices"
	"strconv"
	"strings"
	"testing"

	"mailguard/api"
)

func small() api.Lattice {
	return api.Lattice{Levels: []string{"LOW", "LOWER", "HIGH"}, Comps: []string{"A", "B", "A-B"}}
}

// many answers that many unlike right names.
func many(prefix string, count int) []string {
	var names []string
	for i := range count {
		names = append(names, prefix+strconv.Itoa(i))
	}
	return names
}

func full() api.Lattice { return api.Lattice{Levels: many("L", 16), Comps: many("C", 64)} }

func wrongLattices() map[string]api.Lattice {
	return map[string]api.Lattice{
		"nothing":               {},
		"no level":              {Comps: []string{"A"}},
		"17 levels":             {Levels: many("LOW", 17)},
		"65 compartments":       {Levels: []string{"LOW"}, Comps: many("A", 65)},
		"small letters":         {Levels: []string{"LOW", "high"}},
		"empty name":            {Levels: []string{"LOW"}, Comps: []string{""}},
		"long name":             {Levels: []string{"LOW", strings.Repeat("N", 17)}},
		"equal levels":          {Levels: []string{"LOW", "LOW"}},
		"level and compartment": {Levels: []string{"LOW"}, Comps: []string{"LOW"}},
		"an end in a name":      {Levels: []string{"LOW", "HIGH\r\n"}},
	}
}

// lines: marking lines of labels of small.
func lines() map[string]api.Label {
	return map[string]api.Label{
		"MARK: LOW":           {},
		"MARK: LOWER":         {Level: 1},
		"MARK: HIGH":          {Level: 2},
		"MARK: LOW//A":        {Comps: 1},
		"MARK: HIGH//B":       {Level: 2, Comps: 2},
		"MARK: LOWER//A-B":    {Level: 1, Comps: 4},
		"MARK: HIGH//A/A-B":   {Level: 2, Comps: 5},
		"MARK: LOW//A/B/A-B":  {Comps: 7},
		"MARK: HIGH//A/B/A-B": {Level: 2, Comps: 7},
	}
}

// rests: what may stand behind a marking line's end.
func rests() []string {
	return []string{
		"", "x", "hello", "x\r\ny", "\r\n", "\r\n\r\n", "\n", "\r", " ", "\x00\xff\x80",
		"MARK: LOW", "MARK: HIGH\r\nx", "MARK: HIGH//A/B/A-B\r\n", "MARK: ", "MARK: OTHER\r\n",
		"\r\nMARK: HIGH\r\n", strings.Repeat("long ", 5000),
	}
}

// unmarked: texts that aren't marked in small, whatever stands behind an end.
func unmarked() []string {
	return []string{
		"", "\r\n", "\r", "\n", "x", "hello\r\nMARK: LOW\r\n", "\r\nMARK: LOW\r\nx", "\nMARK: LOW\r\nx",
		"M", "MARK", "MARK:", "MARK: ", "MARK: \r\n", "MARK:\r\n", "MARK:\r\nLOW", "MARK: \r\nLOW\r\n",
		"MARK:LOW\r\n", "MARK LOW\r\n", "MARK:  LOW\r\n", "MARK:\tLOW\r\n", "MARK : LOW\r\n", "MARK:\xa0LOW\r\n",
		" MARK: LOW\r\n", "\ufeffMARK: LOW\r\n", "XMARK: LOW\r\n", "mark: LOW\r\n", "Mark: LOW\r\n", "LOW", "LOW\r\n", ": LOW\r\n",
		"MARK: low\r\n", "MARK: LO\r\n", "MARK: LOWEST\r\n", "MARK: OTHER", "MARK: A\r\n", "MARK: //A\r\n",
		"MARK: LOW/A\r\n", "MARK: LOW//\r\n", "MARK: LOW//B/A\r\n", "MARK: LOW//A/A\r\n", "MARK: LOW//C\r\n", "MARK: LOW//A/\r\n", "MARK: LOW//HIGH\r\n",
		"MARK: LOW \r\n", "MARK: LOW x", "MARK: LOWx\r\n", "MARK: LOW;\r\n", "MARK: LOW\x00\r\n", "MARK: LOW//A B\r\n",
		"MARK: LOW\r", "MARK: LOW\n", "MARK: LOW\rx", "MARK: LOW\nx", "MARK: LOW\n\r", "MARK: LOW\n\rx", "MARK: LOW\r\r\nx", "MARK: LOW\n\r\nx",
		"MARK: LOW\rx\r\n", "MARK: LOW\nx\r\n", "MARK: LOW\nMARK: LOW\r\n", "MARK: LOWMARK: LOW\r\n", "MARK: MARK: LOW\r\n",
		"MARK: L\r\nOW\r\n", "MA\r\nRK: LOW\r\n", "MARK: LOW//\r\nA\r\n", "MARK: LOW//A\n/B\r\n",
		"\xff", "MARK: \xff\r\n", strings.Repeat("MARK: ", 5000),
	}
}

// outside: labels that aren't of small.
func outside() []api.Label {
	return []api.Label{
		{Level: 3}, {Level: -1}, {Level: math.MaxInt}, {Level: math.MinInt},
		{Comps: 8}, {Level: 2, Comps: 15}, {Comps: 1 << 63}, {Level: 16, Comps: math.MaxUint64},
	}
}

// labels: all of small.
func labels() []api.Label {
	var all []api.Label
	for level := range 3 {
		for comps := range uint64(8) {
			all = append(all, api.Label{Level: level, Comps: comps})
		}
	}
	return all
}

func TestLine(t *testing.T) {
	for line, a := range lines() {
		if got, e := Line(small(), a); got != line || e != api.OK {
			t.Errorf("%v %q %v", a, got, e)
		}
	}
	for _, a := range outside() {
		if got, e := Line(small(), a); got != "" || e != api.ErrLabel {
			t.Errorf("%v %q %v", a, got, e)
		}
	}
	for what, l := range wrongLattices() {
		for _, a := range append(outside(), api.Label{}) {
			if got, e := Line(l, a); got != "" || e != api.ErrForm {
				t.Errorf("%s %q %v", what, got, e)
			}
		}
	}
}

func TestMark(t *testing.T) {
	for line, a := range lines() {
		for _, rest := range rests() {
			if got, e := Mark(small(), a, rest); got != line+"\r\n"+rest || e != api.OK {
				t.Errorf("%v %q %v", a, got, e)
			}
		}
	}
	for _, a := range outside() {
		if got, e := Mark(small(), a, "x"); got != "" || e != api.ErrLabel {
			t.Errorf("%v %q %v", a, got, e)
		}
	}
	for what, l := range wrongLattices() {
		for _, a := range append(outside(), api.Label{}) {
			if got, e := Mark(l, a, "x"); got != "" || e != api.ErrForm {
				t.Errorf("%s %q %v", what, got, e)
			}
		}
	}
}

func TestRead(t *testing.T) {
	for line, a := range lines() {
		if got, rest, e := Read(small(), line); got != a || rest != "" || e != api.OK {
			t.Errorf("%q %v %q %v", line, got, rest, e)
		}
		for _, behind := range rests() {
			if got, rest, e := Read(small(), line+"\r\n"+behind); got != a || rest != behind || e != api.OK {
				t.Errorf("%q %q %v %q %v", line, behind, got, rest, e)
			}
		}
	}
}

func TestReadOfUnmarked(t *testing.T) {
	for _, text := range unmarked() {
		if got, rest, e := Read(small(), text); got != (api.Label{}) || rest != "" || e != api.ErrMark {
			t.Errorf("%q %v %q %v", text, got, rest, e)
		}
	}
	// What is no whole marking line isn't one for what it begins with.
	for line := range lines() {
		for _, behind := range []string{"\r", "\n", "\rx", "\nx", " ", "x", "/", "//", "\r\r\n", "\n\r\n", " \r\n"} {
			if got, rest, e := Read(small(), line+behind); got != (api.Label{}) || rest != "" || e != api.ErrMark {
				t.Errorf("%q %q %v %q %v", line, behind, got, rest, e)
			}
		}
	}
}

func TestReadOfWrongLattices(t *testing.T) {
	for what, l := range wrongLattices() {
		for _, text := range []string{"", "x", "MARK: LOW", "MARK: LOW\r\nx", "MARK: OTHER\r\n"} {
			if got, rest, e := Read(l, text); got != (api.Label{}) || rest != "" || e != api.ErrForm {
				t.Errorf("%s %q %v %q %v", what, text, got, rest, e)
			}
		}
	}
}

func TestReadOfAnyByteBehindTheLine(t *testing.T) {
	for first := range 256 {
		for second := range 256 {
			text := "MARK: HIGH//A" + string([]byte{byte(first), byte(second)})
			want := api.ErrMark
			// Beside the end only these two make a marking line of it: A and B, and A-B.
			if slices.Contains([]string{"MARK: HIGH//A\r\n", "MARK: HIGH//A/B", "MARK: HIGH//A-B"}, text) {
				want = api.OK
			}
			if _, rest, e := Read(small(), text); rest != "" || e != want {
				t.Errorf("%q %q %v", text, rest, e)
			}
		}
	}
}

func TestCheck(t *testing.T) {
	text := "MARK: LOWER//A/B\r\nx"
	for a, want := range map[api.Label]api.Errno{
		{Level: 1, Comps: 3}: api.OK,
		{Level: 1, Comps: 7}: api.OK,
		{Level: 2, Comps: 3}: api.OK,
		{Level: 2, Comps: 7}: api.OK,
		{Level: 0, Comps: 3}: api.ErrLabel,
		{Level: 0, Comps: 7}: api.ErrLabel,
		{Level: 1}:           api.ErrLabel,
		{Level: 1, Comps: 1}: api.ErrLabel,
		{Level: 2, Comps: 6}: api.ErrLabel,
		{Level: 2, Comps: 4}: api.ErrLabel,
		{}:                   api.ErrLabel,
		// Nothing asks that the label checked against be one of the lattice.
		{Level: 99, Comps: math.MaxUint64}: api.OK,
		{Level: -1, Comps: math.MaxUint64}: api.ErrLabel,
		{Level: 99, Comps: 1 << 63}:        api.ErrLabel,
	} {
		if got := Check(small(), a, text); got != want {
			t.Error(a, got)
		}
	}
	if got := Check(small(), api.Label{}, "MARK: LOW"); got != api.OK {
		t.Error(got)
	}
	// Only the first line says the text's label.
	if got := Check(small(), api.Label{}, "MARK: LOW\r\nMARK: HIGH\r\n"); got != api.OK {
		t.Error(got)
	}
	if got := Check(small(), api.Label{}, "MARK: HIGH\r\nMARK: LOW\r\n"); got != api.ErrLabel {
		t.Error(got)
	}
}

func TestCheckSaysWhatReadSays(t *testing.T) {
	some := []api.Label{{}, {Level: 2, Comps: 7}, {Level: -1}, {Level: math.MaxInt, Comps: math.MaxUint64}}
	for _, a := range some {
		for _, text := range unmarked() {
			if got := Check(small(), a, text); got != api.ErrMark {
				t.Errorf("%v %q %v", a, text, got)
			}
		}
		for what, l := range wrongLattices() {
			for _, text := range []string{"", "x", "MARK: LOW", "MARK: LOW\r\nx"} {
				if got := Check(l, a, text); got != api.ErrForm {
					t.Errorf("%s %v %q %v", what, a, text, got)
				}
			}
		}
	}
}

func TestMarkedIsRead(t *testing.T) {
	for _, a := range labels() {
		line, _ := Line(small(), a)
		if got, rest, e := Read(small(), line); got != a || rest != "" || e != api.OK {
			t.Errorf("%q %v %q %v", line, got, rest, e)
		}
		for _, text := range slices.Concat(rests(), unmarked()) {
			marked, _ := Mark(small(), a, text)
			if got, rest, e := Read(small(), marked); got != a || rest != text || e != api.OK {
				t.Errorf("%q %v %q %v", marked, got, rest, e)
			}
		}
	}
}

func TestMarkedTwiceIsReadTwice(t *testing.T) {
	inner, outer := api.Label{Level: 2, Comps: 5}, api.Label{Level: 1}
	once, _ := Mark(small(), inner, "x")
	twice, _ := Mark(small(), outer, once)
	if got, rest, e := Read(small(), twice); got != outer || rest != once || e != api.OK {
		t.Errorf("%v %q %v", got, rest, e)
	}
	if got, rest, e := Read(small(), once); got != inner || rest != "x" || e != api.OK {
		t.Errorf("%v %q %v", got, rest, e)
	}
}

func TestMarkedWithMoreDoesNotPass(t *testing.T) {
	for _, a := range labels() {
		marked, _ := Mark(small(), a, "x")
		for _, b := range labels() {
			want := api.OK
			if b.Level < a.Level || a.Comps&^b.Comps != 0 {
				want = api.ErrLabel
			}
			if got := Check(small(), b, marked); got != want {
				t.Error(a, b, got)
			}
		}
	}
}

func TestFullLattice(t *testing.T) {
	top := api.Label{Level: 15, Comps: math.MaxUint64}
	want := "MARK: L15//" + strings.Join(many("C", 64), "/")
	if got, e := Line(full(), top); got != want || e != api.OK {
		t.Error(got, e)
	}
	if got, rest, e := Read(full(), want+"\r\nhello"); got != top || rest != "hello" || e != api.OK {
		t.Error(got, rest, e)
	}
	if got := Check(full(), top, want); got != api.OK {
		t.Error(got)
	}
	if got := Check(full(), api.Label{Level: 15, Comps: math.MaxUint64 >> 1}, want); got != api.ErrLabel {
		t.Error(got)
	}
}

func TestLabelsAreTheLattices(t *testing.T) {
	other := api.Lattice{Levels: []string{"OPEN", "LOW"}}
	if got, _, e := Read(other, "MARK: LOW\r\n"); got != (api.Label{Level: 1}) || e != api.OK {
		t.Error(got, e)
	}
	if got, _, e := Read(other, "MARK: HIGH\r\n"); got != (api.Label{}) || e != api.ErrMark {
		t.Error(got, e)
	}
}

func TestExampleOfTheChapter(t *testing.T) {
	a, rest, e := Read(small(), "MARK: HIGH//A\r\nhello")
	if a != (api.Label{Level: 2, Comps: 1}) || rest != "hello" || e != api.OK {
		t.Error(a, rest, e)
	}
}

func TestLatticeStaysAsItIs(t *testing.T) {
	levels := append(small().Levels, "SPARE", "SPARE")
	comps := append(small().Comps, "SPARE", "SPARE")
	l := api.Lattice{Levels: levels[:3], Comps: comps[:3]}
	Line(l, api.Label{Comps: 7})
	Mark(l, api.Label{Level: 2, Comps: 7}, "x")
	Read(l, "MARK: HIGH//A/B\r\nx")
	Check(l, api.Label{}, "MARK: HIGH//A/B\r\nx")
	if !slices.Equal(levels, []string{"LOW", "LOWER", "HIGH", "SPARE", "SPARE"}) || !slices.Equal(comps, []string{"A", "B", "A-B", "SPARE", "SPARE"}) {
		t.Error(levels, comps)
	}
}
