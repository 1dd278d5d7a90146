package regen

import (
	"slices"
	"strconv"
	"strings"

	"mailguard/api"
	"mailguard/ctype"
	"mailguard/header"
	"mailguard/mime"
)

const (
	end    = "\r\n"
	dashes = "--"

	// multipart: the Main of a type whose texts have parts.
	multipart = "multipart"

	// typeName, codingName: the fields by which a part says how it is to be read.
	typeName   = "Content-Type"
	codingName = "Content-Transfer-Encoding"

	// boundaryName: the parameter by which a multipart says what divides it.
	boundaryName = "boundary"
)

// laid: a part's canonical tree, and its text.
type laid struct {
	canon api.Part
	text  string
}

// lay lays a part that has its form; so the only error that is left is ErrLong, wherever it comes first.
func lay(p api.Part) (laid, api.Errno) {
	if len(p.Parts) == 0 {
		return layLeaf(p)
	}
	return layMultipart(p)
}

func layLeaf(p api.Part) (laid, api.Errno) {
	// No coding tells a body by fewer bytes; so a great one isn't even told.
	if len(p.Body) > api.MaxMessage {
		return laid{}, api.ErrLong
	}
	c := codingOf(p.Type)
	canon := api.Part{Type: copyType(p.Type), Body: strings.Clone(p.Body)}
	canon.Fields = append(typed(p, canon.Type), api.Field{Name: codingName, Body: c.name()})
	return headed(canon, c.tell(canon.Body))
}

func layMultipart(p api.Part) (laid, api.Errno) {
	var parts []api.Part
	var texts []string
	length := 0
	for _, part := range p.Parts {
		l, e := lay(part)
		if e != api.OK {
			return laid{}, e
		}
		parts, texts = append(parts, l.canon), append(texts, l.text)
		length += len(l.text)
	}
	// Ahead of looking for a number, of which great texts could hold many.
	if length > api.MaxMessage {
		return laid{}, api.ErrLong
	}
	boundary := boundaryOf(numberFor(texts))
	canon := api.Part{Type: withBoundary(p.Type, boundary), Parts: parts}
	canon.Fields = typed(p, canon.Type)
	return headed(canon, together(texts, boundary))
}

// headed lays a part's header ahead of its raw body.
func headed(canon api.Part, raw string) (laid, api.Errno) {
	head, e := header.Print(canon.Fields)
	if e != api.OK {
		return laid{}, e
	}
	if len(head)+len(raw) > api.MaxMessage {
		return laid{}, api.ErrLong
	}
	return laid{canon, head + raw}, api.OK
}

// typed answers a part's own fields, and behind them that of its canonical type, a right one.
func typed(p api.Part, t api.Type) []api.Field {
	text, _ := ctype.Print(t)
	return append(mime.Unfielded(p), api.Field{Name: typeName, Body: text})
}

// together puts parts' texts together.
func together(texts []string, boundary string) string {
	var raw strings.Builder
	divide := func(behind string) { raw.WriteString(dashes + boundary + behind + end) }
	for _, text := range texts {
		divide("")
		raw.WriteString(text + end)
	}
	divide(dashes)
	return raw.String()
}

// numberFor answers the least number whose boundary stands in none of the parts' texts, as a division begins.
func numberFor(texts []string) int {
	number := 0
	for slices.ContainsFunc(texts, func(text string) bool { return strings.Contains(text, dashes+boundaryOf(number)) }) {
		number++
	}
	return number
}

func boundaryOf(number int) string { return "=_" + strconv.Itoa(number) }

// withBoundary answers a type with that boundary in the place of its own, or behind its parameters.
func withBoundary(t api.Type, boundary string) api.Type {
	c := copyType(t)
	place := slices.IndexFunc(c.Params, func(p api.Param) bool { return p.Name == boundaryName })
	if place < 0 {
		place = len(c.Params)
		c.Params = append(c.Params, api.Param{Name: boundaryName})
	}
	c.Params[place].Value = boundary
	return c
}

// copyType answers a type that shares no list with that one.
func copyType(t api.Type) api.Type {
	c := api.Type{Main: strings.Clone(t.Main), Sub: strings.Clone(t.Sub)}
	for _, p := range t.Params {
		c.Params = append(c.Params, api.Param{Name: strings.Clone(p.Name), Value: strings.Clone(p.Value)})
	}
	return c
}
