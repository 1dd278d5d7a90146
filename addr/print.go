package addr

import (
	"strings"

	"mailguard/api"
)

// Print: a list's text.
func Print(l []Address) (string, api.Errno) {
	// Asked of all ahead of counting them: one that isn't right goes ahead of too many.
	if len(l) == 0 || !allRight(l) {
		return "", api.ErrForm
	}
	if len(l) > mostAddresses {
		return "", api.ErrLong
	}
	var text strings.Builder
	between := ""
	for _, a := range l {
		text.WriteString(between)
		layAddress(&text, a)
		between = comma + blank
	}
	return text.String(), api.OK
}

func allRight(l []Address) bool {
	for _, a := range l {
		if !Right(a) {
			return false
		}
	}
	return true
}

func layAddress(text *strings.Builder, a Address) {
	bare := a.Local + at + a.Domain
	if a.Name == "" {
		text.WriteString(bare)
		return
	}
	layName(text, a.Name)
	text.WriteString(blank + open + bare + shut)
}

func layName(text *strings.Builder, name string) {
	if isJoined(name, blank, inAtom) {
		text.WriteString(name)
		return
	}
	tell := teller(text)
	text.WriteByte(quote)
	for i := range len(name) {
		tell(name[i])
	}
	text.WriteByte(quote)
}

// teller answers what tells a byte of a name between quotes.
func teller(text *strings.Builder) func(c byte) {
	return func(c byte) {
		if c == quote || c == backslash {
			text.WriteByte(backslash)
		}
		text.WriteByte(c)
	}
}
