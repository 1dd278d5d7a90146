package regen

import (
	"fmt"
	"regexp"
	"slices"
	"strconv"
	"strings"
	"testing"

	"mailguard/api"
	"mailguard/base64"
	"mailguard/ctype"
	"mailguard/header"
	"mailguard/mime"
	"mailguard/quoted"
)

func x(count int) string { return strings.Repeat("x", count) }

// one is a text of that byte.
func one(c int) string { return string([]byte{byte(c)}) }

// brief tells a text so that its bytes are seen, of a long one the first and the last.
func brief(s string) string {
	if len(s) > 600 {
		return fmt.Sprintf("%q..%d..%q", s[:300], len(s)-600, s[len(s)-300:])
	}
	return fmt.Sprintf("%q", s)
}

// whole tells all that is of a tree, so that two trees are told alike only where they are the same.
func whole(p api.Part) string {
	var s strings.Builder
	fmt.Fprintf(&s, "{%q %q/%q%q %q", p.Fields, p.Type.Main, p.Type.Sub, p.Type.Params, p.Body)
	for _, part := range p.Parts {
		s.WriteString(whole(part))
	}
	return s.String() + "}"
}

// low makes the letters A to Z to a to z, byte by byte.
func low(s string) string {
	b := []byte(s)
	for i, c := range b {
		if 'A' <= c && c <= 'Z' {
			b[i] = c | 32
		}
	}
	return string(b)
}

// slowPart: a part in a row of all parts of a tree; where its parts stand there; what is made of it.
type slowPart struct {
	api.Part
	within int
	parts  []int
	text   string
}

// slowRow lays all parts of a tree in a row, each one behind the one that it stands in, those of one depth together.
func slowRow(p api.Part) []slowPart {
	row := []slowPart{{Part: p}}
	for i := 0; i < len(row); i++ {
		for _, part := range row[i].Parts {
			row[i].parts = append(row[i].parts, len(row))
			row = append(row, slowPart{Part: part, within: row[i].within + 1})
		}
	}
	return row
}

// slowMake makes the canonical tree and its text from the row's last part to its first, with errors that it finds in each.
func slowMake(p api.Part) (api.Part, string, api.Errno) {
	row := slowRow(p)
	for _, part := range row {
		if part.within > 3 && len(part.Parts) > 0 {
			return api.Part{}, "", api.ErrDeep
		}
	}
	if len(row) > 16 {
		return api.Part{}, "", api.ErrLong
	}
	var found []api.Errno
	for i := len(row) - 1; i >= 0; i-- {
		found = append(found, slowOne(row, i))
	}
	for _, e := range []api.Errno{api.ErrForm, api.ErrLong} {
		if slices.Contains(found, e) {
			return api.Part{}, "", e
		}
	}
	return row[0].Part, row[0].text, api.OK
}

// slowOne makes a part's canonical tree in its place, and its text, as far as there are any.
func slowOne(row []slowPart, place int) api.Errno {
	p := &row[place]
	_, e := ctype.Print(p.Type)
	if e != api.OK || p.Type.Main == "multipart" && len(p.parts) == 0 || p.Type.Main != "multipart" && len(p.parts) > 0 || p.Body != "" && len(p.parts) > 0 {
		return api.ErrForm
	}
	var fields []api.Field
	for _, f := range p.Fields {
		if name := low(f.Name); name != "content-type" && name != "content-transfer-encoding" {
			fields = append(fields, f)
		}
	}
	raw, coding := "", ""
	switch {
	case len(p.parts) > 0:
		raw = slowMultipart(row, place)
	case p.Type.Main == "text":
		raw, coding = quoted.Encode(p.Body), "quoted-printable"
	default:
		raw, coding = base64.Fold(p.Body), "base64"
	}
	kind, e := ctype.Print(p.Type)
	if e != api.OK {
		return e
	}
	fields = append(fields, api.Field{Name: "Content-Type", Body: kind})
	if coding != "" {
		fields = append(fields, api.Field{Name: "Content-Transfer-Encoding", Body: coding})
	}
	head, e := header.Print(fields)
	p.Fields, p.text = fields, head+raw
	if e == api.OK && len(p.text) > 16384 {
		e = api.ErrLong
	}
	return e
}

var division = regexp.MustCompile("--=_[0-9]+")

// slowMultipart answers a multipart's raw body, and gives it its boundary and its parts.
func slowMultipart(row []slowPart, place int) string {
	p := &row[place]
	taken := map[string]bool{}
	p.Parts = nil
	for _, part := range p.parts {
		p.Parts = append(p.Parts, row[part].Part)
		for _, mark := range division.FindAllString(row[part].text, -1) {
			for till := range len(mark) + 1 {
				taken[mark[:till]] = true
			}
		}
	}
	number := 0
	for taken["--=_"+strconv.Itoa(number)] {
		number++
	}
	boundary := fmt.Sprintf("=_%d", number)
	var ahead, behind []api.Param
	for i, param := range p.Type.Params {
		if param.Name == "boundary" {
			behind = p.Type.Params[i+1:]
			break
		}
		ahead = append(ahead, param)
	}
	p.Type.Params = slices.Concat(ahead, []api.Param{{Name: "boundary", Value: boundary}}, behind)
	raw := ""
	for _, part := range p.parts {
		raw += "--" + boundary + "\r\n" + row[part].text + "\r\n"
	}
	return raw + "--" + boundary + "--\r\n"
}

// gives checks what Print and Canon answer.
func gives(t *testing.T, p, canon api.Part, text string, e api.Errno) {
	t.Helper()
	before := whole(p)
	if s, got := Print(p); s != text || got != e {
		t.Errorf("%s: %s %d, not %s %d", brief(before), brief(s), got, brief(text), e)
	}
	if c, got := Canon(p); whole(c) != whole(canon) || got != e {
		t.Errorf("%s: %s %d, not %s %d", brief(before), brief(whole(c)), got, brief(whole(canon)), e)
	}
	if whole(p) != before {
		t.Errorf("%s: changed to %s", brief(before), brief(whole(p)))
	}
}

// agrees checks a tree against the slow way, and what follows of one that is printed, and answers the error.
func agrees(t *testing.T, p api.Part) api.Errno {
	t.Helper()
	canon, text, e := slowMake(p)
	gives(t, p, canon, text, e)
	if e != api.OK {
		return e
	}
	gives(t, canon, canon, text, api.OK)
	if parsed, e := mime.Parse(text); whole(parsed) != whole(canon) || e != api.OK {
		t.Errorf("%s: parsed as %s %d", brief(text), brief(whole(parsed)), e)
	}
	return api.OK
}

// tells checks a tree's text.
func tells(t *testing.T, p api.Part, want string) {
	t.Helper()
	if s, e := Print(p); s != want || e != api.OK {
		t.Errorf("%s: %s %d, not %s", brief(whole(p)), brief(s), e, brief(want))
	}
	if e := agrees(t, p); e != api.OK {
		t.Errorf("%s: slowly %d", brief(whole(p)), e)
	}
}

// refused checks a tree's error.
func refused(t *testing.T, p api.Part, want api.Errno) {
	t.Helper()
	gives(t, p, api.Part{}, "", want)
	if _, _, e := slowMake(p); e != want {
		t.Errorf("%s: slowly %d, not %d", brief(whole(p)), e, want)
	}
}

// ends checks the error of a tree, OK or not.
func ends(t *testing.T, p api.Part, want api.Errno) {
	t.Helper()
	if want != api.OK {
		refused(t, p, want)
	} else if e := agrees(t, p); e != api.OK {
		t.Errorf("%s: %d", brief(whole(p)), e)
	}
}

// rows answers all texts of at most so many of the pieces.
func rows(most int, pieces ...string) []string {
	all := []string{""}
	from := 0
	for range most {
		till := len(all)
		for _, s := range all[from:till] {
			for _, piece := range pieces {
				all = append(all, s+piece)
			}
		}
		from = till
	}
	return all
}

func TestRows(t *testing.T) {
	if all := rows(3, "a", "bc"); len(all) != 15 || all[0] != "" || all[4] != "abc" || all[14] != "bcbcbc" {
		t.Error(all)
	}
}

func TestWhole(t *testing.T) {
	tree := api.Part{Fields: []api.Field{{Name: "a", Body: "b"}}, Type: api.Type{Main: "c", Sub: "d", Params: []api.Param{{Name: "e", Value: "f"}}}, Body: "g\"", Parts: []api.Part{{Body: "h"}, {}}}
	if s := whole(tree); s != `{[{"a" "b"}] "c"/"d"[{"e" "f"}] "g\""{[] ""/""[] "h"}{[] ""/""[] ""}}` {
		t.Error(s)
	}
}
