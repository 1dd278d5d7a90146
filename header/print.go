package header

import (
	"strings"

	"mailguard/api"
)

// mostFolded: how many bytes a line has, unless it is of one word, or only empty words make it longer.
const mostFolded = 78

// Print: a header's text.
func Print(l []api.Field) (string, api.Errno) {
	// Asked of all ahead of laying any: a field that isn't right goes ahead of one that is too long.
	for _, f := range l {
		if !Right(f) {
			return "", api.ErrForm
		}
	}
	if len(l) > api.MaxHeaders {
		return "", api.ErrLong
	}
	var text strings.Builder
	for _, f := range l {
		if !layField(&text, f) {
			return "", api.ErrLong
		}
	}
	text.WriteString(end)
	return text.String(), api.OK
}

// layField lays a field's folded line, with its end, and tells whether no line of it is too long.
func layField(text *strings.Builder, f api.Field) bool {
	lay := layer(text, f.Name+colon)
	// An empty Body has no word, though a cut of it would tell of an empty one.
	if f.Body != "" {
		for word := range strings.SplitSeq(f.Body, blank) {
			if !lay(word) {
				return false
			}
		}
	}
	text.WriteString(end)
	return true
}

// layer lays what a field begins with, and answers what lays one word behind the other, and tells of each whether the line has not too many bytes by it.
func layer(text *strings.Builder, begin string) func(word string) bool {
	text.WriteString(begin)
	line, first := len(begin), true
	return func(word string) bool {
		more := len(blank) + len(word)
		if !first && word != "" && line+more > mostFolded {
			text.WriteString(end)
			line = 0
		}
		text.WriteString(blank)
		text.WriteString(word)
		line, first = line+more, false
		return line <= api.MaxLine
	}
}
