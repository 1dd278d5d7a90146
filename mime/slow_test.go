package mime

import (
	"fmt"
	"strings"
	"testing"

	"mailguard/api"
	"mailguard/base64"
	"mailguard/ctype"
	"mailguard/header"
	"mailguard/quoted"
)

func x(count int) string { return strings.Repeat("x", count) }

// one is a text of that byte.
func one(c int) string { return string([]byte{byte(c)}) }

// brief tells a text so that its bytes are seen, of a long one the first and the last.
func brief(s string) string {
	if len(s) > 400 {
		return fmt.Sprintf("%q..%d..%q", s[:200], len(s)-400, s[len(s)-200:])
	}
	return fmt.Sprintf("%q", s)
}

// whole tells all that is of a tree, so that two trees are told alike only where they are the same.
func whole(p api.Part) string {
	var s strings.Builder
	fmt.Fprintf(&s, "{%q %q/%q%q %q", p.Fields, p.Type.Main, p.Type.Sub, p.Type.Params, p.Body)
	for _, part := range p.Parts {
		s.WriteString(whole(part))
	}
	return s.String() + "}"
}

// low makes the letters A to Z to a to z, byte by byte.
func low(s string) string {
	b := []byte(s)
	for i, c := range b {
		if 'A' <= c && c <= 'Z' {
			b[i] = c | 32
		}
	}
	return string(b)
}

// slowPart: a part with the error of its own, that none of another one's ends.
type slowPart struct {
	api.Part
	e      api.Errno
	within int
	parts  []*slowPart
}

// slowParse reads all parts that there are, wrong ones too, lays them in a row, and then looks which error comes first.
func slowParse(s string) (api.Part, api.Errno) {
	if len(s) > 16384 {
		return api.Part{}, api.ErrLong
	}
	top := slowRead(s, 0)
	for i, p := range slowRow(top) {
		switch {
		case i >= 16:
			return api.Part{}, api.ErrLong
		case p.e != api.OK:
			return api.Part{}, p.e
		case p.within >= 4 && p.parts != nil:
			return api.Part{}, api.ErrDeep
		}
	}
	return slowTree(top), api.OK
}

func slowRow(p *slowPart) []*slowPart {
	row := []*slowPart{p}
	for _, part := range p.parts {
		row = append(row, slowRow(part)...)
	}
	return row
}

func slowTree(p *slowPart) api.Part {
	tree := p.Part
	for _, part := range p.parts {
		tree.Parts = append(tree.Parts, slowTree(part))
	}
	return tree
}

func slowRead(s string, within int) *slowPart {
	p := &slowPart{within: within}
	var raw string
	p.Fields, raw, p.e = header.Parse(s)
	if p.e != api.OK {
		return p
	}
	kind, coding := "text/plain", "7bit"
	for i := len(p.Fields) - 1; i >= 0; i-- {
		switch low(p.Fields[i].Name) {
		case "content-type":
			kind = p.Fields[i].Body
		case "content-transfer-encoding":
			coding = low(p.Fields[i].Body)
		}
	}
	p.Type, p.e = ctype.Parse(kind)
	if p.e != api.OK {
		return p
	}
	if p.Type.Main != "multipart" {
		p.Body, p.e = slowDecode(raw, coding)
		return p
	}
	texts, ok := slowDivide(raw, p.Type.Params)
	if !ok || coding != "7bit" && coding != "8bit" {
		p.e = api.ErrForm
		return p
	}
	for _, text := range texts {
		p.parts = append(p.parts, slowRead(text, within+1))
	}
	return p
}

func slowDecode(raw, coding string) (string, api.Errno) {
	if coding == "base64" {
		return base64.Unfold(raw)
	}
	if coding == "quoted-printable" {
		return quoted.Decode(raw)
	}
	if coding == "7bit" || coding == "8bit" {
		return raw, api.OK
	}
	return "", api.ErrForm
}

// slowDivide goes from line to line.
func slowDivide(raw string, params []api.Param) ([]string, bool) {
	boundary := ""
	for _, p := range params {
		if p.Name == "boundary" {
			boundary = p.Value
		}
	}
	lines := strings.Split(raw, "\r\n")
	if len(boundary) < 1 || len(boundary) > 70 || lines[0] != "--"+boundary || lines[len(lines)-1] != "" {
		return nil, false
	}
	var texts []string
	from := 1
	for i, line := range lines[1:] {
		switch {
		case !strings.HasPrefix(line, "--"+boundary):
			continue
		case i+1 == from:
			return nil, false
		}
		texts = append(texts, strings.Join(lines[from:i+1], "\r\n"))
		from = i + 2
		if line == "--"+boundary+"--" {
			return texts, from == len(lines)-1
		} else if line != "--"+boundary {
			return nil, false
		}
	}
	return nil, false
}

// tells checks what a text tells, and against the slow way.
func tells(t *testing.T, s string, want api.Part) {
	t.Helper()
	if got, e := Parse(s); whole(got) != whole(want) || e != api.OK {
		t.Errorf("%s: %s %d, not %s", brief(s), brief(whole(got)), e, brief(whole(want)))
	}
	if got, e := slowParse(s); whole(got) != whole(want) || e != api.OK {
		t.Errorf("%s: slowly %s %d", brief(s), brief(whole(got)), e)
	}
}

// refused checks the error of a text, and against the slow way.
func refused(t *testing.T, s string, want api.Errno) {
	t.Helper()
	if got, e := Parse(s); whole(got) != whole(api.Part{}) || e != want {
		t.Errorf("%s: %s %d, not %d", brief(s), brief(whole(got)), e, want)
	}
	if _, e := slowParse(s); e != want {
		t.Errorf("%s: slowly %d, not %d", brief(s), e, want)
	}
}

// agrees checks a text against the slow way alone, and answers the error.
func agrees(t *testing.T, s string) api.Errno {
	t.Helper()
	want, e := slowParse(s)
	if got, g := Parse(s); whole(got) != whole(want) || g != e {
		t.Errorf("%s: %s %d, not %s %d", brief(s), brief(whole(got)), g, brief(whole(want)), e)
	}
	return e
}

// rows answers all texts of at most so many of the pieces.
func rows(most int, pieces ...string) []string {
	all := []string{""}
	from := 0
	for range most {
		till := len(all)
		for _, s := range all[from:till] {
			for _, piece := range pieces {
				all = append(all, s+piece)
			}
		}
		from = till
	}
	return all
}

func TestRows(t *testing.T) {
	if all := rows(3, "a", "bc"); len(all) != 15 || all[0] != "" || all[4] != "abc" || all[14] != "bcbcbc" {
		t.Error(all)
	}
}

func TestWhole(t *testing.T) {
	tree := api.Part{Fields: []api.Field{{Name: "a", Body: "b"}}, Type: api.Type{Main: "c", Sub: "d", Params: []api.Param{{Name: "e", Value: "f"}}}, Body: "g\"", Parts: []api.Part{{Body: "h"}, {}}}
	if s := whole(tree); s != `{[{"a" "b"}] "c"/"d"[{"e" "f"}] "g\""{[] ""/""[] "h"}{[] ""/""[] ""}}` {
		t.Error(s)
	}
}
