package lattice

import (
	"math"
	"slices"
	"strconv"
	"strings"
	"testing"

	"mailguard/api"
)

func small() api.Lattice {
	return api.Lattice{Levels: []string{"LOW", "MID", "HIGH"}, Comps: []string{"A", "B", "A-B"}}
}

// many answers that many unlike right names.
func many(prefix string, count int) []string {
	var names []string
	for i := range count {
		names = append(names, prefix+strconv.Itoa(i))
	}
	return names
}

func full() api.Lattice { return api.Lattice{Levels: many("L-", 16), Comps: many("C-", 64)} }

func wrongLattices() map[string]api.Lattice {
	return map[string]api.Lattice{
		"nothing":                {},
		"no level":               {Comps: []string{"A"}},
		"17 levels":              {Levels: many("L", 17)},
		"65 compartments":        {Levels: []string{"LOW"}, Comps: many("C", 65)},
		"empty level":            {Levels: []string{"LOW", ""}},
		"empty compartment":      {Levels: []string{"LOW"}, Comps: []string{""}},
		"level of 17 bytes":      {Levels: []string{strings.Repeat("N", 17)}},
		"compartment of 17":      {Levels: []string{"LOW"}, Comps: []string{strings.Repeat("N", 17)}},
		"equal levels":           {Levels: []string{"LOW", "HIGH", "LOW"}},
		"equal compartments":     {Levels: []string{"LOW"}, Comps: []string{"A", "B", "A"}},
		"level and compartment":  {Levels: []string{"LOW", "HIGH"}, Comps: []string{"A", "HIGH"}},
		"small letters":          {Levels: []string{"low"}},
		"slash in a level":       {Levels: []string{"LOW//A"}, Comps: []string{"A"}},
		"slash in a compartment": {Levels: []string{"LOW"}, Comps: []string{"A/B"}},
		"space":                  {Levels: []string{"LOW "}},
		"end of line":            {Levels: []string{"LOW\r\n"}},
		"letters beyond":         {Levels: []string{"L\u00c4"}},
	}
}

func TestRight(t *testing.T) {
	for what, l := range map[string]api.Lattice{
		"small":           small(),
		"1 level":         {Levels: []string{"A"}},
		"16 and 64":       full(),
		"16 levels":       {Levels: many("L", 16), Comps: []string{}},
		"64 compartments": {Levels: []string{"LOW"}, Comps: many("C", 64)},
		"16 bytes":        {Levels: []string{strings.Repeat("N", 16)}, Comps: []string{strings.Repeat("M", 16)}},
		"1 byte":          {Levels: []string{"-"}, Comps: []string{"0"}},
		"one's beginning": {Levels: []string{"A", "AA"}, Comps: []string{"AAA"}},
	} {
		if !Right(l) {
			t.Error(what)
		}
	}
	for what, l := range wrongLattices() {
		if Right(l) {
			t.Error(what)
		}
	}
}

func TestRightBytes(t *testing.T) {
	for c := range 256 {
		want := strings.IndexByte("ABCDEFGHIJKLMNOPQRSTUVWXYZ0123456789-", byte(c)) >= 0
		for _, name := range []string{string([]byte{byte(c)}), string([]byte{'N', byte(c)}), string([]byte{byte(c), 'N'})} {
			if Right(api.Lattice{Levels: []string{name}}) != want || Right(api.Lattice{Levels: []string{"LOW"}, Comps: []string{name}}) != want {
				t.Errorf("%d %q", c, name)
			}
		}
	}
}

func TestIn(t *testing.T) {
	bare := api.Lattice{Levels: []string{"LOW"}}
	for i, x := range []struct {
		l    api.Lattice
		a    api.Label
		want bool
	}{
		{small(), api.Label{}, true},
		{small(), api.Label{Level: 2, Comps: 7}, true},
		{small(), api.Label{Level: 3}, false},
		{small(), api.Label{Level: -1}, false},
		{small(), api.Label{Level: math.MaxInt}, false},
		{small(), api.Label{Level: math.MinInt}, false},
		{small(), api.Label{Comps: 8}, false},
		{small(), api.Label{Comps: 15}, false},
		{small(), api.Label{Comps: 1 << 63}, false},
		{bare, api.Label{}, true},
		{bare, api.Label{Level: 1}, false},
		{bare, api.Label{Comps: 1}, false},
		{full(), api.Label{Level: 15, Comps: math.MaxUint64}, true},
		{full(), api.Label{Level: 16, Comps: math.MaxUint64}, false},
		{api.Lattice{Levels: []string{"LOW"}, Comps: many("C", 63)}, api.Label{Comps: 1 << 63}, false},
	} {
		if In(x.l, x.a) != x.want {
			t.Error(i, x.a)
		}
	}
	for what, l := range wrongLattices() {
		if In(l, api.Label{}) {
			t.Error(what)
		}
	}
}

func TestDominatesJoinMeet(t *testing.T) {
	for i, x := range []struct {
		a, b, join, meet api.Label
		over, under      bool
	}{
		{api.Label{}, api.Label{}, api.Label{}, api.Label{}, true, true},
		{api.Label{Level: 1}, api.Label{}, api.Label{Level: 1}, api.Label{}, true, false},
		{api.Label{Comps: 1}, api.Label{}, api.Label{Comps: 1}, api.Label{}, true, false},
		{api.Label{Level: 2, Comps: 3}, api.Label{Level: 2, Comps: 1}, api.Label{Level: 2, Comps: 3}, api.Label{Level: 2, Comps: 1}, true, false},
		{api.Label{Level: 2, Comps: 1}, api.Label{Level: 1, Comps: 2}, api.Label{Level: 2, Comps: 3}, api.Label{Level: 1}, false, false},
		{api.Label{Level: 1, Comps: 6}, api.Label{Level: 1, Comps: 3}, api.Label{Level: 1, Comps: 7}, api.Label{Level: 1, Comps: 2}, false, false},
		{api.Label{Level: -1, Comps: 1 << 63}, api.Label{Level: -2}, api.Label{Level: -1, Comps: 1 << 63}, api.Label{Level: -2}, true, false},
		{api.Label{Level: math.MaxInt}, api.Label{Level: math.MinInt, Comps: math.MaxUint64}, api.Label{Level: math.MaxInt, Comps: math.MaxUint64}, api.Label{Level: math.MinInt}, false, false},
	} {
		if Dominates(x.a, x.b) != x.over || Dominates(x.b, x.a) != x.under {
			t.Error(i, "dominates")
		}
		if Join(x.a, x.b) != x.join || Join(x.b, x.a) != x.join {
			t.Error(i, Join(x.a, x.b))
		}
		if Meet(x.a, x.b) != x.meet || Meet(x.b, x.a) != x.meet {
			t.Error(i, Meet(x.a, x.b))
		}
	}
}

// someLabels answers labels in every relation to each other, some of no lattice.
func someLabels() []api.Label {
	var labels []api.Label
	for _, level := range []int{math.MinInt, -1, 0, 1, 2, math.MaxInt} {
		for _, comps := range []uint64{0, 1, 2, 3, 1 << 63, 1<<63 | 1, math.MaxUint64} {
			labels = append(labels, api.Label{Level: level, Comps: comps})
		}
	}
	return labels
}

func TestOrder(t *testing.T) {
	labels := someLabels()
	for _, a := range labels {
		if !Dominates(a, a) {
			t.Error("not over itself:", a)
		}
		for _, b := range labels {
			if a != b && Dominates(a, b) && Dominates(b, a) {
				t.Error("each over the other:", a, b)
			}
			for _, c := range labels {
				if Dominates(a, b) && Dominates(b, c) && !Dominates(a, c) {
					t.Error("not handed on:", a, b, c)
				}
			}
		}
	}
}

func TestBounds(t *testing.T) {
	labels := someLabels()
	for _, a := range labels {
		for _, b := range labels {
			join, meet := Join(a, b), Meet(a, b)
			for _, c := range labels {
				if Dominates(c, join) != (Dominates(c, a) && Dominates(c, b)) {
					t.Error("join:", a, b, c)
				}
				if Dominates(meet, c) != (Dominates(a, c) && Dominates(b, c)) {
					t.Error("meet:", a, b, c)
				}
			}
		}
	}
}

// texts: of labels of small.
func texts() map[string]api.Label {
	return map[string]api.Label{
		"LOW":           {},
		"MID":           {Level: 1},
		"HIGH":          {Level: 2},
		"HIGH//A":       {Level: 2, Comps: 1},
		"LOW//B":        {Comps: 2},
		"MID//A-B":      {Level: 1, Comps: 4},
		"HIGH//A/B":     {Level: 2, Comps: 3},
		"HIGH//A/A-B":   {Level: 2, Comps: 5},
		"LOW//B/A-B":    {Comps: 6},
		"HIGH//A/B/A-B": {Level: 2, Comps: 7},
		"LOW//A/B/A-B":  {Comps: 7},
		"MID//A/B":      {Level: 1, Comps: 3},
		"MID//B/A-B":    {Level: 1, Comps: 6},
		"MID//A/B/A-B":  {Level: 1, Comps: 7},
		"MID//A/A-B":    {Level: 1, Comps: 5},
		"LOW//A-B":      {Comps: 4},
		"HIGH//A-B":     {Level: 2, Comps: 4},
		"HIGH//B":       {Level: 2, Comps: 2},
		"LOW//A":        {Comps: 1},
		"LOW//A/A-B":    {Comps: 5},
		"LOW//A/B":      {Comps: 3},
		"MID//A":        {Level: 1, Comps: 1},
		"MID//B":        {Level: 1, Comps: 2},
		"HIGH//B/A-B":   {Level: 2, Comps: 6},
	}
}

// wrongTexts: of no label of small.
func wrongTexts() []string {
	return []string{
		"", "/", "//", "A", "//A", "low", "LOWER", "LO", " LOW", "LOW ", "LOW\r\n", "LOW\x00",
		"LOW/", "LOW/A", "LOW//", "LOW///A", "LOW//A/", "LOW//A//B", "LOW///", "LOW// A", "LOW//A /B",
		"LOW//B/A", "LOW//A/A", "LOW//A/B/A", "LOW//A-B/B", "LOW//A-B/A", "LOW//C", "LOW//a", "LOW//A/C",
		"LOW//LOW", "LOW//HIGH", "LOW//A,B", "LOWLOW", "LOW//A/LOW", "LOW//A/B/A-B/A", "\xff", "LOW//\xff",
	}
}

func TestPrint(t *testing.T) {
	for s, a := range texts() {
		if got, e := Print(small(), a); got != s || e != api.OK {
			t.Error(a, got, e)
		}
	}
	for _, a := range []api.Label{{Level: 3}, {Level: -1}, {Level: math.MinInt}, {Comps: 8}, {Level: 2, Comps: 1 << 63}} {
		if got, e := Print(small(), a); got != "" || e != api.ErrLabel {
			t.Error(a, got, e)
		}
	}
	for what, l := range wrongLattices() {
		for _, a := range []api.Label{{}, {Level: -1}} {
			if got, e := Print(l, a); got != "" || e != api.ErrForm {
				t.Error(what, got, e)
			}
		}
	}
}

func TestParse(t *testing.T) {
	for s, a := range texts() {
		if got, e := Parse(small(), s); got != a || e != api.OK {
			t.Error(s, got, e)
		}
	}
	for _, s := range wrongTexts() {
		if got, e := Parse(small(), s); got != (api.Label{}) || e != api.ErrForm {
			t.Errorf("%q %v %v", s, got, e)
		}
	}
	for what, l := range wrongLattices() {
		for _, s := range []string{"", "LOW", "LOW//A"} {
			if got, e := Parse(l, s); got != (api.Label{}) || e != api.ErrForm {
				t.Error(what, got, e)
			}
		}
	}
}

func TestTextsOfEdges(t *testing.T) {
	bare := api.Lattice{Levels: []string{"0"}}
	if got, e := Print(bare, api.Label{}); got != "0" || e != api.OK {
		t.Error(got, e)
	}
	if got, e := Parse(bare, "0//"); got != (api.Label{}) || e != api.ErrForm {
		t.Error(got, e)
	}
	top := api.Label{Level: 15, Comps: math.MaxUint64}
	want := "L-15//" + strings.Join(full().Comps, "/")
	if got, e := Print(full(), top); got != want || e != api.OK {
		t.Error(got, e)
	}
	if got, e := Parse(full(), want); got != top || e != api.OK {
		t.Error(got, e)
	}
	last := api.Label{Level: 15, Comps: 1<<63 | 1}
	if got, e := Print(full(), last); got != "L-15//C-0/C-63" || e != api.OK {
		t.Error(got, e)
	}
	if got, e := Parse(full(), "L-15//C-63/C-63"); got != (api.Label{}) || e != api.ErrForm {
		t.Error(got, e)
	}
	// A name may begin as another one, or be of hyphens.
	odd := api.Lattice{Levels: []string{"-", "--"}, Comps: []string{"---", strings.Repeat("-", 16)}}
	if got, e := Parse(odd, "--//---/----------------"); got != (api.Label{Level: 1, Comps: 3}) || e != api.OK {
		t.Error(got, e)
	}
}

func TestPrintedIsParsed(t *testing.T) {
	l := full()
	for level := range 16 {
		for bit := range 64 {
			for _, comps := range []uint64{0, 1 << bit, 1<<bit - 1, ^uint64(0) << bit, 0x9e3779b97f4a7c15 << bit} {
				a := api.Label{Level: level, Comps: comps}
				s, e := Print(l, a)
				got, f := Parse(l, s)
				if e != api.OK || f != api.OK || got != a {
					t.Fatal(a, s, got, e, f)
				}
			}
		}
	}
}

// spared answers a small lattice whose lists have spare room, and that room.
func spared() (api.Lattice, []string, []string) {
	levels := append(small().Levels, "SPARE", "SPARE")
	comps := append(small().Comps, "SPARE", "SPARE")
	return api.Lattice{Levels: levels[:3], Comps: comps[:3]}, levels, comps
}

func TestLatticeStaysAsItIs(t *testing.T) {
	l, levels, comps := spared()
	n, _ := New(l)
	Right(l)
	In(l, api.Label{})
	Print(l, api.Label{Comps: 7})
	Parse(l, "HIGH//A/B")
	n.Print(api.Label{Comps: 7})
	n.Parse("HIGH//A/B")
	if !slices.Equal(levels, []string{"LOW", "MID", "HIGH", "SPARE", "SPARE"}) || !slices.Equal(comps, []string{"A", "B", "A-B", "SPARE", "SPARE"}) {
		t.Error(levels, comps)
	}
}
