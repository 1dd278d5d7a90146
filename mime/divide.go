package mime

import (
	"strings"

	"mailguard/api"
	"mailguard/ctype"
)

const (
	end    = "\r\n"
	dashes = "--"
)

// textsOf answers the texts of a multipart's parts, at least one.
func textsOf(raw string, t api.Type, coding string) ([]string, api.Errno) {
	// No Value has more bytes than a boundary may have (layer 12).
	boundary, _ := ctype.Param(t, "boundary")
	if boundary == "" || coding != sevenBit && coding != eightBit {
		return nil, api.ErrForm
	}
	return divide(raw, dashes+boundary)
}

// divide cuts a multipart's raw body at its divisions.
func divide(raw, mark string) ([]string, api.Errno) {
	behind, begun := strings.CutPrefix(raw, mark+end)
	between, ended := strings.CutSuffix(behind, end+mark+dashes+end)
	if !begun || !ended {
		return nil, api.ErrForm
	}
	texts := strings.Split(between, end+mark+end)
	for _, text := range texts {
		if hasLine(text, mark) {
			return nil, api.ErrForm
		}
	}
	return texts, api.OK
}

// hasLine: does a line of the text begin so? (A division whose end is the one ahead's, too, is seen as such a line, for it is cut once.)
func hasLine(text, begin string) bool {
	return strings.HasPrefix(text, begin) || strings.Contains(text, end+begin)
}
