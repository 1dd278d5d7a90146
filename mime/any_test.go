package mime

import (
	"fmt"
	"math/rand"
	"slices"
	"strings"
	"testing"

	"mailguard/api"
	"mailguard/base64"
	"mailguard/quoted"
)

// TestParseOfAllShortBodies: all rows of some pieces, of a multipart and of one within it.
func TestParseOfAllShortBodies(t *testing.T) {
	told := 0
	for _, raw := range rows(6, "--b", "--", "\r\n", "x", "\r\n--b--\r\n", "--b\r\n\r\n") {
		for _, s := range []string{head("b") + raw, head("b") + "--b\r\n\r\n" + raw + "\r\n--b--\r\n"} {
			if agrees(t, s) == api.OK {
				told++
			}
		}
	}
	for _, raw := range rows(8, "--b", "\r\n", "--") {
		for _, s := range []string{head("b") + raw, head("b") + "--b\r\n" + raw + "--b--\r\n", multi("a", head("b")+raw)} {
			if agrees(t, s) == api.OK {
				told++
			}
		}
	}
	if told < 8000 {
		t.Error("so few tell a tree:", told)
	}
}

// TestParseOfAllShortTexts: pieces of headers, bodies and divisions, wherever.
func TestParseOfAllShortTexts(t *testing.T) {
	told := 0
	for _, s := range rows(6, "Content-Type: ", "multipart/x; boundary=b", "\r\n", "\r\n\r\n--b\r\n", "\r\n--b--\r\n", "a:") {
		if agrees(t, s) == api.OK {
			told++
		}
	}
	for _, s := range rows(5, "Content-Transfer-Encoding:", "base64", "quoted-printable", "8BIT", "\r\n", "\r\n\r\n", "YQ==", "=") {
		if agrees(t, s) == api.OK {
			told++
		}
	}
	if told < 300 {
		t.Error("so few tell a tree:", told)
	}
}

// maker makes texts together with the trees that they tell.
type maker struct {
	*rand.Rand
	left int // how many parts more there may be
}

func (m *maker) pick(l ...string) string { return l[m.Intn(len(l))] }

// anyCase answers a text in other letters.
func (m *maker) anyCase(s string) string {
	b := []byte(s)
	for i, c := range b {
		if m.Intn(4) == 0 && ('a' <= c && c <= 'z' || 'A' <= c && c <= 'Z') {
			b[i] = c ^ 32
		}
	}
	return string(b)
}

func (m *maker) bytes() string {
	var s strings.Builder
	for range m.Intn(9) {
		s.WriteString(m.pick("x", " ", "\r\n", "--", "--b", "--b--", "=", "a: b", "\r", "\n", "\x00", "\xff", "caf\xc3\xa9", x(30), x(80), "YQ==", "\t"))
	}
	return s.String()
}

// fields answers the two that tell a type and a coding, others among them, and some behind that don't count.
func (m *maker) fields(kind, coding string) []api.Field {
	var l []api.Field
	if kind != "" {
		l = append(l, api.Field{Name: m.anyCase("Content-Type"), Body: kind})
	}
	if coding != "" {
		l = append(l, api.Field{Name: m.anyCase("Content-Transfer-Encoding"), Body: coding})
	}
	m.Shuffle(len(l), func(i, k int) { l[i], l[k] = l[k], l[i] })
	for range m.Intn(3) {
		f := api.Field{Name: m.pick("Subject", "To", "Content-Types", "Content", "x", "!"), Body: m.pick("", "x", "a b", "--b", "caf\xc3\xa9", x(70))}
		l = slices.Insert(l, m.Intn(len(l)+1), f)
	}
	if kind != "" && m.Intn(5) == 0 {
		l = append(l, api.Field{Name: m.anyCase("Content-Type"), Body: m.pick("", "x", "a/b", "multipart/mixed")})
	}
	if coding != "" && m.Intn(5) == 0 {
		l = append(l, api.Field{Name: m.anyCase("Content-Transfer-Encoding"), Body: m.pick("", "x", "base64", "8bit")})
	}
	return l
}

func headerOf(l []api.Field) string {
	var s strings.Builder
	for _, f := range l {
		s.WriteString(f.Name + ": " + f.Body + "\r\n")
	}
	return s.String() + "\r\n"
}

func (m *maker) leaf() (string, api.Part) {
	p := api.Part{Type: api.Type{Main: "text", Sub: "plain"}, Body: m.bytes()}
	kind := ""
	if m.Intn(3) > 0 {
		p.Type = api.Type{Main: m.pick("text", "image", "multi", "x"), Sub: m.pick("plain", "png", "multipart")}
		kind = m.anyCase(p.Type.Main + "/" + p.Type.Sub)
		if m.Intn(3) == 0 {
			p.Type.Params = []api.Param{{Name: "charset", Value: "utf-8"}, {Name: "boundary", Value: "B c"}}
			kind += m.pick("; charset=utf-8; boundary=\"B c\"", ";Charset=\"utf-8\" ;\tBOUNDARY=\"B \\c\"")
		}
	}
	coding := m.pick("", "", "7bit", "8bit", "base64", "quoted-printable")
	raw := p.Body
	switch coding {
	case "base64":
		raw = base64.Fold(p.Body)
	case "quoted-printable":
		raw = quoted.Encode(p.Body)
	}
	p.Fields = m.fields(kind, m.anyCase(coding))
	return headerOf(p.Fields) + raw, p
}

// boundary answers one with which no line of the texts begins.
func (m *maker) boundary(texts []string) string {
	for {
		b := m.pick("b", "bb", "b c", "b-", "--", "=_0", ":", x(70), "X", "B", "'", "b\"\\") + m.pick("", "", "1", "2")
		ok := len(b) <= 70
		for _, text := range texts {
			ok = ok && !strings.Contains("\r\n"+text, "\r\n--"+b)
		}
		if ok {
			return b
		}
	}
}

func (m *maker) tree(within int) (string, api.Part) {
	m.left--
	if within == 4 || m.left == 0 || m.Intn(3) == 0 {
		return m.leaf()
	}
	p := api.Part{Type: api.Type{Main: "multipart", Sub: m.pick("mixed", "x")}}
	var texts []string
	for range 1 + m.Intn(4) {
		if m.left > 0 {
			text, part := m.tree(within + 1)
			texts, p.Parts = append(texts, text), append(p.Parts, part)
		}
	}
	b := m.boundary(texts)
	p.Type.Params = []api.Param{{Name: "boundary", Value: b}}
	kind := m.anyCase(p.Type.Main+"/"+p.Type.Sub) + "; " + m.anyCase("boundary") + "=" + quotedValue(b)
	p.Fields = m.fields(kind, m.anyCase(m.pick("", "7bit", "8bit")))
	return headerOf(p.Fields) + body(b, texts...), p
}

// isTree checks what holds of each tree that was parsed, in another way than the program counts.
func isTree(t *testing.T, p api.Part) {
	t.Helper()
	count, leaves := 0, []string{}
	var look func(p api.Part, within int)
	look = func(p api.Part, within int) {
		count++
		if len(p.Parts) == 0 {
			leaves = append(leaves, whole(p))
		}
		if within > 4 || (p.Type.Main == "multipart") != (len(p.Parts) > 0) || len(p.Parts) > 0 && p.Body != "" {
			t.Errorf("within %d: %s", within, brief(whole(p)))
		}
		for _, part := range p.Parts {
			look(part, within+1)
		}
	}
	look(p, 0)
	var told []string
	for _, leaf := range Leaves(p) {
		told = append(told, whole(leaf))
		if Count(leaf) != 1 || len(leaf.Parts) > 0 || leaf.Type.Main == "multipart" {
			t.Errorf("a leaf: %s", brief(whole(leaf)))
		}
	}
	if Count(p) != count || count < 1 || count > 16 || !slices.Equal(told, leaves) || len(leaves) > count || !Same(p, p) {
		t.Errorf("%s: %d parts, leaves %q", brief(whole(p)), Count(p), told)
	}
}

func TestParseOfAnyTree(t *testing.T) {
	m := &maker{Rand: rand.New(rand.NewSource(131))}
	counts := [17]int{}
	for range 8000 {
		m.left = 1 + m.Intn(16)
		s, p := m.tree(0)
		if len(s) > 16384 {
			refused(t, s, api.ErrLong)
			continue
		}
		tells(t, s, p)
		got, _ := Parse(s)
		if again, e := Parse(s); e != api.OK || !Same(got, again) || !Same(got, p) || !Same(p, got) {
			t.Errorf("%s: other trees", brief(s))
		}
		isTree(t, got)
		counts[Count(p)]++
	}
	if slices.Min(counts[1:]) < 20 {
		t.Error("so few of a number:", counts)
	}
}

// TestParseOfTreesTooGreat: of more than 16 parts, or deeper, too.
func TestParseOfTreesTooGreat(t *testing.T) {
	m := &maker{Rand: rand.New(rand.NewSource(132))}
	counts := map[api.Errno]int{}
	for range 3000 {
		m.left = 17 + m.Intn(20)
		var texts []string
		for range 1 + m.Intn(4) {
			m.left++
			s, _ := m.tree(m.Intn(2))
			texts = append(texts, s)
		}
		s := multi("outer", texts...)
		if m.Intn(4) == 0 {
			s = multi("outermost", s)
		}
		counts[agrees(t, s)]++
	}
	for _, e := range []api.Errno{api.OK, api.ErrLong, api.ErrDeep} {
		if counts[e] < 200 {
			t.Error("so few of an error:", counts)
		}
	}
}

// spoil answers a text of which a piece is another one, gone, or new.
func (m *maker) spoil(s string) string {
	from := m.Intn(len(s) + 1)
	till := min(len(s), from+m.Intn(4))
	piece := m.pick("", "", "\r\n", "\r\n\r\n", "--", "--b", "--b--\r\n", "\r\n--b\r\n", "x", ":", "\r", "=", "Content-Type: x\r\n", "Content-Transfer-Encoding: base64\r\n", "multipart", x(990), "\x00", "\xff", s[from:till]+s[from:till], s[min(len(s), till):])
	return s[:from] + piece + s[till:]
}

func TestParseOfSpoiledTexts(t *testing.T) {
	m := &maker{Rand: rand.New(rand.NewSource(133))}
	counts := map[api.Errno]int{}
	for range 20000 {
		m.left = 1 + m.Intn(17)
		s, _ := m.tree(0)
		for range 1 + m.Intn(2) {
			s = m.spoil(s)
		}
		counts[agrees(t, s)]++
		if p, e := Parse(s); e == api.OK {
			isTree(t, p)
		}
	}
	for _, e := range []api.Errno{api.OK, api.ErrForm, api.ErrLong} {
		if counts[e] < 200 {
			t.Error("so few of an error:", counts)
		}
	}
}

func TestParseOfAnyBytes(t *testing.T) {
	r := rand.New(rand.NewSource(134))
	for range 20000 {
		b := make([]byte, r.Intn(40))
		r.Read(b)
		s := string(b)
		for _, text := range []string{s, "\r\n" + s, head("b") + s, multi("b", s), multi("b", "\r\n"+s), "Content-Transfer-Encoding: base64\r\n\r\n" + s, "Content-Transfer-Encoding: quoted-printable\r\n\r\n" + s, "Content-Type: " + s + "\r\n\r\n", "Content-Transfer-Encoding: " + s + "\r\n\r\n", s + "\r\n\r\n"} {
			agrees(t, text)
		}
	}
	for c := range 256 {
		for _, s := range []string{one(c), "\r\n" + one(c), one(c) + "\r\n\r\n", one(c) + ": x\r\n\r\n", "a:" + one(c) + "\r\n\r\n", "Content-Type: text/" + one(c) + "\r\n\r\n", "Content-Type: " + one(c) + "ultipart/mixed; boundary=b\r\n\r\n" + body("b", "\r\n"), "Content-Transfer-Encoding: " + one(c) + "bit\r\n\r\n", "Content-Transfer-Encoding: 7" + one(c) + "it\r\n\r\n", "Content-Transfer-Encoding: base64" + one(c) + "\r\n\r\n", head("b") + "--b" + one(c) + "\r\n\r\n\r\n--b--\r\n", head("b") + one(c) + body("b", "\r\n"), head("b") + body("b", "\r\n") + one(c), multi("b", "\r\n"+one(c)+"--b"), multi("b", "\r\n\r\n--b"+one(c)), multi("b", "\r\n\r"+one(c)+"--b"), multi("b", one(c)), multi("b", "\r\n"+one(c)), multi("b", one(c)+"\n"), multi("b", "\r"+one(c))} {
			agrees(t, s)
		}
	}
}

// TestNoTreeSharesAList: with another one of the same text, or within itself.
func TestNoTreeSharesAList(t *testing.T) {
	fields := strings.Repeat("a: b\r\n", 5)
	text := fields + multi("b", fields+"\r\n1", fields+multi("c", "Content-Type: a/b; c=d; e=f; g=h\r\n\r\n2", "Content-Type: a/b; c=d; e=f; g=h\r\n\r\n3"), "\r\n4", "\r\n5")
	first, _ := Parse(text)
	second, _ := Parse(text)
	want := whole(first)
	spendAll(t, &first)
	if whole(second) != want {
		t.Error(brief(whole(second)))
	}
}

// spendAll writes into each list of a tree, spare room too, and checks that the others stay as they are.
func spendAll(t *testing.T, p *api.Part) {
	t.Helper()
	var all []*api.Part
	var look func(p *api.Part)
	look = func(p *api.Part) {
		all = append(all, p)
		for i := range p.Parts {
			look(&p.Parts[i])
		}
	}
	look(p)
	for i, part := range all {
		var before, behind []string
		for _, other := range all {
			before = append(before, fmt.Sprintf("%q %q", other.Fields, other.Type.Params))
		}
		_, _ = append(part.Fields, make([]api.Field, cap(part.Fields)-len(part.Fields))...), append(part.Type.Params, make([]api.Param, cap(part.Type.Params)-len(part.Type.Params))...)
		for k := range part.Fields {
			part.Fields[k] = api.Field{Name: "spent", Body: "spent"}
		}
		for k := range part.Type.Params {
			part.Type.Params[k] = api.Param{Name: "spent", Value: "spent"}
		}
		_ = append(part.Parts, make([]api.Part, cap(part.Parts)-len(part.Parts))...)
		for _, other := range all {
			behind = append(behind, fmt.Sprintf("%q %q", other.Fields, other.Type.Params))
		}
		behind[i] = before[i]
		if !slices.Equal(before, behind) {
			t.Errorf("part %d shares a list", i)
		}
	}
}
