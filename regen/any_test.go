package regen

import (
	"fmt"
	"math/rand"
	"slices"
	"strings"
	"testing"

	"mailguard/api"
	"mailguard/mime"
)

// maker makes trees.
type maker struct {
	*rand.Rand
	left int // how many parts more there may be
}

func (m *maker) pick(l ...string) string { return l[m.Intn(len(l))] }

func (m *maker) bytes() string {
	var s strings.Builder
	for range m.Intn(9) {
		s.WriteString(m.pick("x", " ", "\r\n", "--=_0", "--=_1--", "=", "a: b", "\r", "\n", "\x00", "\xff", "caf\xc3\xa9", x(30), x(80), "\t"))
	}
	return s.String()
}

func (m *maker) fields() []api.Field {
	var l []api.Field
	for range m.Intn(4) {
		name := m.pick("Subject", "To", "x", "--=_0", "--=_3", "Content-Type", "content-type", "CONTENT-TRANSFER-ENCODING", "Content", x(64))
		l = append(l, api.Field{Name: name, Body: m.pick("", "x", "a b", "--=_0", "--=_1 --=_2", "--=_"+fmt.Sprint(m.Intn(12)), "caf\xc3\xa9", x(70), x(400), "text/plain")})
	}
	return l
}

func (m *maker) params() []api.Param {
	var l []api.Param
	for _, name := range []string{"charset", "boundary", "--", "n"} {
		if m.Intn(3) == 0 {
			l = append(l, api.Param{Name: name, Value: m.pick("", "utf-8", "a b", "_0", "_1", "=_0", "--=_0", "\"\\", x(70))})
		}
	}
	m.Shuffle(len(l), func(i, k int) { l[i], l[k] = l[k], l[i] })
	return l
}

func (m *maker) tree(within int) api.Part {
	m.left--
	p := api.Part{Fields: m.fields(), Type: api.Type{Main: m.pick("text", "text", "image", "x"), Sub: m.pick("plain", "png", "multipart"), Params: m.params()}}
	if within == 4 || m.left == 0 || m.Intn(3) == 0 {
		p.Body = m.bytes()
		return p
	}
	p.Type.Main = "multipart"
	for range 1 + m.Intn(4) {
		if m.left > 0 {
			p.Parts = append(p.Parts, m.tree(within+1))
		}
	}
	return p
}

func TestAnyTree(t *testing.T) {
	m := &maker{Rand: rand.New(rand.NewSource(141))}
	counts := [17]int{}
	numbers := map[string]int{}
	for range 2500 {
		m.left = 1 + m.Intn(16)
		p := m.tree(0)
		ends(t, p, api.OK)
		counts[mime.Count(p)]++
		c, _ := Canon(p)
		for _, param := range c.Type.Params {
			if len(c.Parts) > 0 && param.Name == "boundary" {
				numbers[param.Value]++
			}
		}
	}
	if slices.Min(counts[1:]) < 20 || len(numbers) < 6 {
		t.Error("so few of a number:", counts, numbers)
	}
}

// placesOf points to all parts of a tree.
func placesOf(p *api.Part) []*api.Part {
	all := []*api.Part{p}
	for i := range p.Parts {
		all = append(all, placesOf(&p.Parts[i])...)
	}
	return all
}

// spoil changes one thing of a part.
func (m *maker) spoil(p *api.Part) {
	switch m.Intn(9) {
	case 0:
		p.Type.Main = m.pick("text", "image", "multipart", "Text", "", "a b")
	case 1:
		p.Type.Sub = m.pick("", "A", x(65), "a")
	case 2:
		p.Body += m.pick("x", x(5000), x(20000))
	case 3:
		p.Fields = append(p.Fields, api.Field{Name: m.pick("a:", "", "A", "content-type"), Body: m.pick(" ", "", x(996), x(995), "\r\n")})
	case 4:
		p.Fields = append(p.Fields, slices.Repeat([]api.Field{{Name: "A", Body: "b"}}, 58+m.Intn(7))...)
	case 5:
		p.Type.Params = append(p.Type.Params, api.Param{Name: m.pick("", "A", "boundary", "c"), Value: m.pick("", "b", "\x00", x(71))})
	case 6:
		for i := range 5 {
			p.Type.Params = append(p.Type.Params, api.Param{Name: fmt.Sprint(i)})
		}
	case 7:
		*p = mixed(*p)
	case 8:
		if len(p.Parts) > 0 {
			p.Parts = append(p.Parts, several(m.Intn(10))...)
		}
	}
}

func TestSpoiledTrees(t *testing.T) {
	m := &maker{Rand: rand.New(rand.NewSource(142))}
	counts := map[api.Errno]int{}
	for range 6000 {
		m.left = 1 + m.Intn(16)
		p := m.tree(0)
		for range 1 + m.Intn(3) {
			all := placesOf(&p)
			m.spoil(all[m.Intn(len(all))])
		}
		counts[agrees(t, p)]++
	}
	for _, e := range []api.Errno{api.OK, api.ErrForm, api.ErrLong, api.ErrDeep} {
		if counts[e] < 120 {
			t.Error("so few of an error:", counts)
		}
	}
}

// TestParsedTrees: whatever text is parsed to a tree, of what is printed of that one the same is printed again.
func TestParsedTrees(t *testing.T) {
	m := &maker{Rand: rand.New(rand.NewSource(143))}
	for range 2000 {
		m.left = 1 + m.Intn(16)
		text, _ := Print(m.tree(0))
		p, e := mime.Parse(text)
		if again, f := Print(p); e != api.OK || f != api.OK || again != text {
			t.Errorf("%s: %s %d %d", brief(text), brief(again), e, f)
		}
		other := strings.ReplaceAll(strings.ReplaceAll(text, "=_", "b"), "Content-Transfer-Encoding: base64\r\n", "")
		if p, e := mime.Parse(other); e == api.OK {
			agrees(t, p)
		}
	}
}

// spared is a tree whose lists have room behind them, and what tells all of it, room too.
func spared() (api.Part, func() string) {
	fields := leaf("", "", "", "A", "1", "Content-Type", "x", "B", "2", "spare", "room", "more", "room").Fields
	params := with(plain(""), "k", "v", "boundary", "b", "spare", "room", "more", "room").Type.Params
	parts := []api.Part{{Fields: fields[:3], Type: api.Type{Main: "text", Sub: "plain", Params: params[:2]}, Body: "a"}, {Fields: fields[:2], Type: api.Type{Main: "image", Sub: "png", Params: params[:1]}, Body: "b"}, {Body: "spare"}, {Body: "room"}}
	inner := []api.Part{{Type: api.Type{Main: "multipart", Sub: "mixed", Params: params[:1]}, Fields: fields[:1], Parts: parts[:2]}, parts[0], {Body: "spare"}}
	p := api.Part{Fields: fields[:3], Type: api.Type{Main: "multipart", Sub: "mixed", Params: params[:2]}, Parts: inner[:2]}
	return p, func() string { return fmt.Sprintf("%q %q %q %q", fields, params, parts, inner) }
}

// spend writes into a part's lists, the room behind them too.
func spend(p *api.Part) {
	_ = append(p.Fields, make([]api.Field, cap(p.Fields)-len(p.Fields))...)
	_ = append(p.Type.Params, make([]api.Param, cap(p.Type.Params)-len(p.Type.Params))...)
	for i := range p.Fields {
		p.Fields[i] = api.Field{Name: "spent", Body: "spent"}
	}
	for i := range p.Type.Params {
		p.Type.Params[i] = api.Param{Name: "spent", Value: "spent"}
	}
	_ = append(p.Parts, make([]api.Part, cap(p.Parts)-len(p.Parts))...)
}

func TestWhatIsHandedInStays(t *testing.T) {
	p, told := spared()
	before := told()
	agrees(t, p)
	c, _ := Canon(p)
	again, _ := Canon(p)
	want := whole(again)
	for _, part := range placesOf(&c) {
		spend(part)
	}
	clear(c.Parts)
	if told() != before || whole(again) != want {
		t.Error(told())
	}
}

// TestAnswersStay: when what was handed in is changed behind the call.
func TestAnswersStay(t *testing.T) {
	p, _ := spared()
	c, _ := Canon(p)
	want := whole(c)
	for _, part := range placesOf(&p) {
		spend(part)
	}
	clear(p.Parts[0].Parts)
	clear(p.Parts)
	if whole(c) != want {
		t.Error(whole(c))
	}
}

// TestListsAreApart: no two lists of one answer share any.
func TestListsAreApart(t *testing.T) {
	p, _ := spared()
	c, _ := Canon(p)
	all := placesOf(&c)
	if len(all) != 5 {
		t.Fatal(len(all))
	}
	for i, part := range all {
		tell := func() []string {
			var l []string
			for _, other := range all {
				l = append(l, fmt.Sprintf("%q %q", other.Fields, other.Type.Params))
			}
			return l
		}
		before := tell()
		spend(part)
		behind := tell()
		behind[i] = before[i]
		if !slices.Equal(before, behind) {
			t.Errorf("part %d shares a list", i)
		}
	}
}
