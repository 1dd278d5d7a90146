package header

import (
	"strings"

	"mailguard/api"
	"mailguard/frame"
)

// Parse: and back.
func Parse(s string) ([]api.Field, string, api.Errno) {
	head, rest, ok := cut(s)
	if !ok {
		return nil, "", api.ErrForm
	}
	lines, e := frame.Lines(head)
	if e != api.OK {
		return nil, "", e
	}
	// Asked of all lines ahead of reading any field.
	for _, line := range lines {
		if len(line) > api.MaxLine {
			return nil, "", api.ErrLong
		}
	}
	l, ok := read(lines)
	if !ok {
		return nil, "", api.ErrForm
	}
	if len(l) > api.MaxHeaders {
		return nil, "", api.ErrLong
	}
	return l, strings.Clone(rest), api.OK
}

// cut cuts a text at its first empty line: what it answers first are the lines ahead of it, with their ends.
func cut(s string) (head, rest string, ok bool) {
	if rest, ok := strings.CutPrefix(s, end); ok {
		return "", rest, true
	}
	at := strings.Index(s, end+end)
	if at < 0 {
		return "", "", false
	}
	return s[:at+len(end)], s[at+2*len(end):], true
}

// read reads the fields of lines.
func read(lines []string) ([]api.Field, bool) {
	var l []api.Field
	for len(lines) > 0 {
		count := together(lines)
		f, ok := readField(strings.Join(lines[:count], ""))
		if !ok {
			return nil, false
		}
		l = append(l, f)
		lines = lines[count:]
	}
	return l, true
}

// together tells how many of the lines, from the first on, are one field's.
func together(lines []string) int {
	count := 1
	for count < len(lines) && goesOn(lines[count]) {
		count++
	}
	return count
}

func goesOn(line string) bool { return line != "" && strings.Contains(blanks, line[:1]) }

// readField reads a field out of its lines, laid together. (A first line that begins with a blank or a tab isn't asked for apart, for no right Name begins so.)
func readField(line string) (api.Field, bool) {
	name, body, ok := strings.Cut(line, colon)
	f := api.Field{Name: name, Body: strings.Trim(body, blanks)}
	if !ok || !Right(f) {
		return api.Field{}, false
	}
	return f, true
}
