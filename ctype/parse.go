package ctype

import (
	"strings"

	"mailguard/api"
)

// Parse: and back.
func Parse(s string) (api.Type, api.Errno) {
	t, ok := readType(taker(s))
	if !ok || !Right(t) {
		return api.Type{}, api.ErrForm
	}
	return t, api.OK
}

// take takes the first bytes of what is left of a text that are such, as many as there are.
type take func(of func(c byte) bool) string

func taker(s string) take {
	return func(of func(c byte) bool) string {
		count := runOf(s, of)
		taken := s[:count]
		s = s[count:]
		return taken
	}
}

// readType reads a type, right or not, that is the whole text.
func readType(t take) (read api.Type, ok bool) {
	t(inGap)
	read.Main = readName(t)
	if !t.one(slash) {
		return api.Type{}, false
	}
	read.Sub = readName(t)
	t(inGap)
	for t.one(semicolon) {
		t(inGap)
		p, ok := readParam(t)
		// Of too many none is kept.
		if !ok || len(read.Params) == mostParams {
			return api.Type{}, false
		}
		read.Params = append(read.Params, p)
		t(inGap)
	}
	return read, t(inText) == ""
}

func readParam(t take) (p api.Param, ok bool) {
	p.Name = readName(t)
	if !t.one(equals) {
		return api.Param{}, false
	}
	p.Value, ok = readValue(t)
	return p, ok
}

// readName reads a token with letters of either kind. (strings.ToLower may answer the piece itself, which would keep the whole text.)
func readName(t take) string {
	return strings.Clone(strings.ToLower(t(inName)))
}

func readValue(t take) (value string, ok bool) {
	if !t.one(quote) {
		value = strings.Clone(t(inToken))
		return value, isToken(value)
	}
	var heard strings.Builder
	t(hearer(&heard))
	return heard.String(), t.one(quote)
}

// one takes that byte, if it comes first, and tells whether it did.
func (t take) one(want byte) bool {
	open := true
	return t(func(c byte) bool {
		fits := open && c == want
		open = false
		return fits
	}) != ""
}

// hearer answers what hears a byte between quotes, and tells whether it isn't the quote that ends them.
func hearer(heard *strings.Builder) func(c byte) bool {
	saysNext := false
	return func(c byte) bool {
		switch {
		case saysNext:
			saysNext = false
		case c == backslash:
			saysNext = true
			return true
		case c == quote:
			return false
		}
		heard.WriteByte(c)
		return true
	}
}

func inGap(c byte) bool { return c == ' ' || c == '\t' }

func inName(c byte) bool { return c >= 'A' && c <= 'Z' || inToken(c) }

func inText(byte) bool { return true }
