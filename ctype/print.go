package ctype

import (
	"strings"

	"mailguard/api"
)

// Print: a type's text.
func Print(t api.Type) (string, api.Errno) {
	if !Right(t) {
		return "", api.ErrForm
	}
	var text strings.Builder
	text.WriteString(t.Main)
	text.WriteByte(slash)
	text.WriteString(t.Sub)
	for _, p := range t.Params {
		text.WriteString("; ")
		text.WriteString(p.Name)
		text.WriteByte(equals)
		writeValue(&text, p.Value)
	}
	return text.String(), api.OK
}

func writeValue(text *strings.Builder, value string) {
	if isToken(value) {
		text.WriteString(value)
		return
	}
	text.WriteByte(quote)
	for i := range len(value) {
		if value[i] == quote || value[i] == backslash {
			text.WriteByte(backslash)
		}
		text.WriteByte(value[i])
	}
	text.WriteByte(quote)
}
