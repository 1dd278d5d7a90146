package frame

import (
	"strings"

	"mailguard/api"
)

const (
	end = "\r\n"
	dot = "."
)

// Lines: of a text.
func Lines(s string) ([]string, api.Errno) {
	var lines []string
	for s != "" {
		line, rest, ended := strings.Cut(s, end)
		if !ended {
			return nil, api.ErrForm
		}
		// A copy, so that a short line doesn't keep the whole text.
		lines = append(lines, strings.Clone(line))
		s = rest
	}
	return lines, api.OK
}

// Stuff: a text.
func Stuff(s string) (string, api.Errno) {
	lines, e := Lines(s)
	if e != api.OK {
		return "", e
	}
	var stuffed strings.Builder
	for _, line := range lines {
		if strings.HasPrefix(line, dot) {
			stuffed.WriteString(dot)
		}
		stuffed.WriteString(line)
		stuffed.WriteString(end)
	}
	stuffed.WriteString(dot)
	stuffed.WriteString(end)
	return stuffed.String(), api.OK
}

// Unstuff: and back.
func Unstuff(s string) (string, string, api.Errno) {
	var text strings.Builder
	for {
		line, rest, ended := strings.Cut(s, end)
		if !ended {
			return "", "", api.ErrForm
		}
		if line == dot {
			return text.String(), strings.Clone(rest), api.OK
		}
		line, dotted := strings.CutPrefix(line, dot)
		// Stuff lays a dot only where one stands.
		if dotted && !strings.HasPrefix(line, dot) {
			return "", "", api.ErrForm
		}
		text.WriteString(line)
		text.WriteString(end)
		s = rest
	}
}
