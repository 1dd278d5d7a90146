package mime

import (
	"fmt"
	"slices"
	"strings"
	"testing"

	"mailguard/api"
)

// with is a leaf of those fields, without more.
func with(fields ...string) api.Part { return leaf("", "", "", fields...) }

func typed(first, second string, params ...string) api.Part {
	p := leaf(first, second, "")
	for pair := range slices.Chunk(params, 2) {
		p.Type.Params = append(p.Type.Params, api.Param{Name: pair[0], Value: pair[1]})
	}
	return p
}

// of is a part of those parts, without more.
func of(parts ...api.Part) api.Part { return api.Part{Parts: parts} }

// said is a leaf of that body, without more.
func said(body string) api.Part { return api.Part{Body: body} }

// unlike: trees that aren't the same, any two of them, right ones and others.
func unlike() []api.Part {
	all := []api.Part{
		{}, plain(""), plain("a"), plain("A"), plain("a "), plain("a\x00"), plain("\xff"), plain("\xfe"), plain("\xef\xbf\xbd"), said("a"), leaf("text", "html", "a"), leaf("Text", "plain", "a"), leaf("text", "Plain", "a"), leaf("plain", "text", "a"), leaf("textplain", "", "a"), leaf("", "textplain", "a"), leaf("text/plain", "", "a"),
		with("a", ""), with("A", ""), with("", "a"), with("", ""), with("a", "b"), with("a", "B"), with("A", "b"), with("b", "a"), with("a ", "b"), with("a", " b"), with("ab", ""), with("a", "b", "a", "b"), with("a", "b", "c", "d"), with("c", "d", "a", "b"), with("a", "d", "c", "b"), with("a", "b", "c", ""), with("a", "b", "c", "d", "e", "f"), with("a", "b", "e", "f", "c", "d"), with("Content-Type", "text/plain"), with("content-type", "text/plain"), with("Content-Type", "text/plain", "a", "b"), with("\xff", "\xff"), with("\xfe", "\xff"), with("\xff", "\xfe"),
		typed("a", "b"), typed("a", "b", "c", "d"), typed("a", "b", "C", "d"), typed("a", "b", "c", "D"), typed("a", "b", "d", "c"), typed("a", "b", "c", ""), typed("a", "b", "", ""), typed("a", "b", "c", "d", "e", "f"), typed("a", "b", "e", "f", "c", "d"), typed("a", "b", "c", "d", "c", "d"), typed("", "", "c", "d"), typed("b", "a", "c", "d"), leaf("a", "b", "c", "d", "e"),
	}
	for _, p := range slices.Clone(all[:7]) {
		all = append(all, of(p), of(p, p), of(of(p)), of(p, said("z")), of(said("z"), p), of(of(p), of(p)), of(of(p, p)), of(p, of(p)), of(of(p), p), mixed("b", p), mixed("c", p), mixed("b", p, p), mixed("b", mixed("c", p)), mixed("c", mixed("b", p)))
	}
	p := of(said("1"), said("2"), said("3"))
	for _, order := range [][3]int{{0, 1, 2}, {0, 2, 1}, {1, 0, 2}, {1, 2, 0}, {2, 0, 1}, {2, 1, 0}, {0, 1, 1}, {0, 0, 2}} {
		all = append(all, of(p.Parts[order[0]], p.Parts[order[1]], p.Parts[order[2]]), of(of(p.Parts[order[0]], p.Parts[order[1]]), p.Parts[order[2]]), of(p.Parts[order[0]], of(p.Parts[order[1]], p.Parts[order[2]])))
	}
	both := of(said("x"))
	both.Body = "y"
	return append(all, both, of(both))
}

func TestSame(t *testing.T) {
	for i, a := range unlike() {
		for k, b := range unlike() {
			if Same(a, b) != (i == k) || (whole(a) == whole(b)) != (i == k) {
				t.Errorf("%s and %s: %v", whole(a), whole(b), Same(a, b))
			}
		}
	}
}

// TestSameOfEmptyLists: nil or not, they are the same.
func TestSameOfEmptyLists(t *testing.T) {
	lists := []api.Part{{}, {Fields: []api.Field{}}, {Type: api.Type{Params: []api.Param{}}}, {Parts: []api.Part{}}, {Fields: make([]api.Field, 0, 3), Parts: make([]api.Part, 0, 3)}, {Fields: with("a", "b").Fields[:0], Type: api.Type{Params: typed("a", "b", "c", "d").Type.Params[:0]}, Parts: of(said("x")).Parts[:0]}}
	for _, a := range lists {
		for _, b := range lists {
			if !Same(a, b) || !Same(of(a, b), of(b, a)) || Same(a, said("x")) || Same(a, of(b)) {
				t.Errorf("%#v and %#v", a, b)
			}
		}
	}
}

// greatTree has parts within parts, all of them unlike.
func greatTree() api.Part {
	count := 0
	var grow func(within int) api.Part
	grow = func(within int) api.Part {
		count++
		p := leaf(fmt.Sprintf("m%d", count), fmt.Sprintf("s%d", count), fmt.Sprintf("b%d", count), "a", fmt.Sprint(count), "b", "c")
		p.Type.Params = []api.Param{{Name: "p", Value: fmt.Sprint(count)}, {Name: "q", Value: "r"}}
		if within < 3 {
			for range 2 + within {
				p.Parts = append(p.Parts, grow(within+1))
			}
		}
		return p
	}
	return grow(0)
}

// placesOf points to all parts of a tree, the outer one ahead of its parts.
func placesOf(p *api.Part) []*api.Part {
	all := []*api.Part{p}
	for i := range p.Parts {
		all = append(all, placesOf(&p.Parts[i])...)
	}
	return all
}

// TestSameOfEachThing: of a tree of 33 parts one thing is another one, or gone, wherever it is.
func TestSameOfEachThing(t *testing.T) {
	a := greatTree()
	if b := greatTree(); !Same(a, b) || Count(a) != 33 {
		t.Fatal(Count(a))
	}
	changes := []func(p *api.Part){
		func(p *api.Part) { p.Body += "x" }, func(p *api.Part) { p.Body = "" }, func(p *api.Part) { p.Body = "B" + p.Body[1:] },
		func(p *api.Part) { p.Type.Main += "x" }, func(p *api.Part) { p.Type.Sub += "x" }, func(p *api.Part) { p.Type.Main, p.Type.Sub = p.Type.Sub, p.Type.Main },
		func(p *api.Part) { p.Type.Params = nil }, func(p *api.Part) { p.Type.Params = p.Type.Params[:1] }, func(p *api.Part) { p.Type.Params = p.Type.Params[1:] }, func(p *api.Part) { p.Type.Params[1].Value = "" }, func(p *api.Part) { p.Type.Params[0].Name = "P" }, func(p *api.Part) { slices.Reverse(p.Type.Params) }, func(p *api.Part) { p.Type.Params = append(p.Type.Params, api.Param{}) },
		func(p *api.Part) { p.Fields = nil }, func(p *api.Part) { p.Fields = p.Fields[:1] }, func(p *api.Part) { p.Fields = p.Fields[1:] }, func(p *api.Part) { p.Fields[0].Name = "A" }, func(p *api.Part) { p.Fields[1].Body = "" }, func(p *api.Part) { slices.Reverse(p.Fields) }, func(p *api.Part) { p.Fields = append(p.Fields, api.Field{}) },
		func(p *api.Part) { p.Parts = append(p.Parts, api.Part{}) }, func(p *api.Part) { p.Parts = append([]api.Part{{}}, p.Parts...) }, func(p *api.Part) { p.Parts = []api.Part{*p} },
		func(p *api.Part) { *p = api.Part{} },
	}
	for i := range Count(a) {
		for k, change := range changes {
			b := greatTree()
			change(placesOf(&b)[i])
			if Same(a, b) || Same(b, a) {
				t.Errorf("part %d, change %d", i, k)
			}
		}
		b := greatTree()
		p := placesOf(&b)[i]
		if len(p.Parts) > 0 {
			slices.Reverse(p.Parts)
			if Same(a, b) {
				t.Errorf("part %d, in another order", i)
			}
			slices.Reverse(p.Parts)
			p.Parts = p.Parts[:len(p.Parts)-1]
			if Same(a, b) || Same(b, a) {
				t.Errorf("part %d, with fewer parts", i)
			}
		}
	}
}

func TestCount(t *testing.T) {
	for want, all := range map[int][]api.Part{
		1: {{}, plain("x"), {Parts: []api.Part{}}, leaf("multipart", "mixed", "--b")},
		2: {of(plain("x")), mixed("b", plain("")), of(api.Part{})},
		3: {of(plain("x"), plain("x")), of(of(api.Part{}))},
		4: {of(plain(""), plain(""), plain("")), of(of(plain("x")), plain("x")), of(plain("x"), of(plain("x"))), of(of(plain("x"), plain("x"))), of(of(of(plain(""))))},
		7: {of(of(plain("1"), plain("2")), of(plain("3"), plain("4")))},
	} {
		for _, p := range all {
			if Count(p) != want {
				t.Errorf("%s: %d, not %d", whole(p), Count(p), want)
			}
		}
	}
	// There may be more than a message has.
	if count := Count(of(make([]api.Part, 1<<20)...)); count != 1<<20+1 {
		t.Error(count)
	}
}

// hasLeaves checks the leaves by their bodies.
func hasLeaves(t *testing.T, p api.Part, bodies ...string) {
	t.Helper()
	var told []string
	for _, leaf := range Leaves(p) {
		told = append(told, leaf.Body)
	}
	if !slices.Equal(told, bodies) {
		t.Errorf("%s: %q", brief(whole(p)), told)
	}
}

func TestLeaves(t *testing.T) {
	hasLeaves(t, api.Part{}, "")
	hasLeaves(t, plain("x"), "x")
	hasLeaves(t, of(plain("x")), "x")
	hasLeaves(t, of(plain("x"), plain("y"), plain("x")), "x", "y", "x")
	hasLeaves(t, of(of(plain("1"), plain("2")), plain("3"), of(of(plain("4")), plain("5"))), "1", "2", "3", "4", "5")
	hasLeaves(t, of(plain("1"), of(plain("2"), of(plain("3"), of(plain("4")), plain("5")), plain("6")), plain("7")), "1", "2", "3", "4", "5", "6", "7")
	// What is no leaf isn't told, though it may have a body; what is of a multipart's type may be one.
	hasLeaves(t, api.Part{Body: "x", Parts: []api.Part{plain("y")}}, "y")
	hasLeaves(t, leaf("multipart", "mixed", "x"), "x")
	hasLeaves(t, of(leaf("multipart", "mixed", "x"), api.Part{Body: "y", Parts: []api.Part{}}), "x", "y")
	for _, p := range unlike() {
		if len(p.Parts) == 0 {
			if l := Leaves(p); len(l) != 1 || !Same(l[0], p) || whole(l[0]) != whole(p) {
				t.Errorf("%s: %d", whole(p), len(l))
			}
		}
	}
	a := greatTree()
	var told, want []string
	for _, leaf := range Leaves(a) {
		told = append(told, whole(leaf))
	}
	for _, p := range placesOf(&a) {
		if p.Parts == nil {
			want = append(want, whole(*p))
		}
	}
	if !slices.Equal(told, want) || len(told) != 24 {
		t.Errorf("%q", told)
	}
}

// TestTreesTooDeep: 65536 within one another, more than a message has.
func TestTreesTooDeep(t *testing.T) {
	const depth = 1 << 16
	a, b, c := plain("x"), plain("x"), plain("y")
	for range depth {
		a, b, c = of(a), of(b), of(c)
	}
	if Count(a) != depth+1 || !Same(a, b) || Same(a, c) || Same(a, a.Parts[0]) {
		t.Error(Count(a))
	}
	hasLeaves(t, a, "x")
	hasLeaves(t, c, "y")
	a.Fields = with("a", "b").Fields
	if len(Unfielded(a)) != 1 || len(Unfielded(b)) != 0 || Same(a, b) {
		t.Error("of the topmost one")
	}
}

// keeps checks which of the fields are left.
func keeps(t *testing.T, p api.Part, want ...string) {
	t.Helper()
	if got := Unfielded(p); !slices.Equal(got, with(want...).Fields) {
		t.Errorf("%q: %q", p.Fields, got)
	}
}

func TestUnfielded(t *testing.T) {
	keeps(t, api.Part{})
	keeps(t, api.Part{Fields: []api.Field{}, Body: "x"})
	keeps(t, with("a", "b", "A", "c", "a", "b"), "a", "b", "A", "c", "a", "b")
	keeps(t, with("", "", "Content-Type:", "x", "a b", "\r\n"), "", "", "Content-Type:", "x", "a b", "\r\n")
	for _, first := range cases("Content-Type") {
		for _, second := range cases("Content-Transfer-Encoding") {
			keeps(t, with(first, "x"))
			keeps(t, with(second, "x"))
			keeps(t, with(first, "", second, "", first, "", second, ""))
			keeps(t, with("a", "1", first, "x", "b", "2", second, "y", "c", "3"), "a", "1", "b", "2", "c", "3")
			keeps(t, with(second, "x", "a", "1", first, "y"), "a", "1")
			keeps(t, with(first, "x", first, "y", "a", "1", first, "z", "a", "2", second, "x", second, "y"), "a", "1", "a", "2")
		}
	}
	for _, name := range []string{"", "Content", "Type", "Content-", "Content-Typ", "Content-Types", "ontent-Type", "X-Content-Type", "Content_Type", "Content Type", "ContentType", "Content-Type ", " Content-Type", "Content-Transfer", "Content-Encoding", "Content-Transfer-Encodin", "Content-Transfer-Encodings", "Transfer-Encoding", "Content-Transfer-Encoding ", "Content-Tran\u017ffer-Encoding", "Content-Type\x00", "C\xf6ntent-Type", "\xff", "Content-Disposition", "MIME-Version"} {
		keeps(t, with(name, "text/plain"), name, "text/plain")
		keeps(t, with("Content-Type", "x", name, "base64", "Content-Transfer-Encoding", "y"), name, "base64")
	}
	// Of the part itself, not of its parts.
	p := of(with("a", "b"), with("c", "d"))
	keeps(t, p)
	p.Fields = with("e", "f", "Content-Type", "x").Fields
	keeps(t, p, "e", "f")
}

// spared has spare room in each of its lists, and that room.
func spared() (api.Part, func() string) {
	fields := []api.Field{{Name: "a", Body: "b"}, {Name: "Content-Type", Body: "c/d"}, {Name: "e", Body: "f"}, {Name: "spare", Body: "1"}}
	params := []api.Param{{Name: "g", Value: "h"}, {Name: "spare", Value: "2"}}
	parts := []api.Part{{Fields: fields[:3], Type: api.Type{Params: params[:1]}}, {Fields: fields[:2], Type: api.Type{Params: params[:1]}, Body: "3"}, said("spare")}
	p := api.Part{Fields: fields[:3], Type: api.Type{Main: "i", Sub: "j", Params: params[:1]}, Body: "k", Parts: parts[:2]}
	return p, func() string { return fmt.Sprintf("%q %q %q %q", fields, params, parts, p.Body) }
}

// TestWhatIsHandedInStays: it isn't changed, nor shared, nor is the room behind it, nor do two lists of an answer share any.
func TestWhatIsHandedInStays(t *testing.T) {
	p, told := spared()
	before := told()
	leaves, others := Leaves(p), Unfielded(p)
	if !Same(p, p) || Count(p) != 3 || told() != before {
		t.Error(told())
	}
	again := fmt.Sprintf("%q", Leaves(p))
	for i := range leaves {
		spendAll(t, &leaves[i])
	}
	for i := range others {
		others[i] = api.Field{Name: "spent", Body: "spent"}
	}
	_ = append(others, make([]api.Field, cap(others)-len(others))...)
	if told() != before || fmt.Sprintf("%q", Leaves(p)) != again {
		t.Error(told())
	}
	// Of two leaves, two lists.
	both := of(p.Parts...)
	l := Leaves(both)
	l[0].Fields[0].Name, l[0].Type.Params[0].Name = "spent", "spent"
	if l[1].Fields[0].Name != "a" || l[1].Type.Params[0].Name != "g" || told() != before {
		t.Error("two leaves share a list")
	}
}

// TestAnswersStay: when what was handed in is changed behind the call.
func TestAnswersStay(t *testing.T) {
	p, _ := spared()
	leaves, others := Leaves(p), Unfielded(p)
	before := fmt.Sprintf("%q %q", leaves, others)
	for _, part := range append(placesOf(&p), &p) {
		for i := range part.Fields {
			part.Fields[i] = api.Field{}
		}
		part.Type.Params[0] = api.Param{}
	}
	clear(p.Parts)
	if told := fmt.Sprintf("%q %q", leaves, others); told != before {
		t.Error(told)
	}
}

func TestParsedIsUnfielded(t *testing.T) {
	p, e := Parse("A: 1\r\ncontent-TYPE: image/png\r\nB: 2\r\nContent-transfer-encoding: base64\r\nContent-Type: x\r\nA: 3\r\n\r\n")
	if e != api.OK || len(p.Fields) != 6 {
		t.Fatal(e)
	}
	keeps(t, p, "A", "1", "B", "2", "A", "3")
	if strings.Count(whole(p), "image/png") != 1 {
		t.Error(whole(p))
	}
}
