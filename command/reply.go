package command

import (
	"strconv"
	"strings"

	"mailguard/api"
)

const (
	firstCode = 200
	lastCode  = 599
	// mostText: bytes of a reply's.
	mostText = 500
)

// Line: a reply's line.
func Line(r Reply) (string, api.Errno) {
	if r.Code < firstCode || r.Code > lastCode || len(r.Text) > mostText || !isAll(r.Text, ' ', '~') {
		return "", api.ErrForm
	}
	return strconv.Itoa(r.Code) + blank + r.Text + end, api.OK
}

// Read: and back, of a line without its end.
func Read(line string) (Reply, api.Errno) {
	digits, text, _ := strings.Cut(line, blank)
	code, _ := strconv.Atoi(digits)
	// A piece would keep the whole line.
	r := Reply{Code: code, Text: strings.Clone(text)}
	// Held against its own line: a code may be said with a sign or noughts, too, and the blank be gone.
	if said, e := Line(r); e != api.OK || said != line+end {
		return Reply{}, api.ErrForm
	}
	return r, api.OK
}
