package base64

import (
	"iter"
	"strings"

	"mailguard/api"
)

// width: how many letters a line has that isn't the last one.
const width = 76

const end = "\r\n"

// Fold: bytes as folded letters.
func Fold(s string) string {
	row := Encode(s)
	var text strings.Builder
	text.Grow(len(row) + (len(row)+width-1)/width*len(end))
	for line := range lines(row) {
		text.WriteString(line)
		text.WriteString(end)
	}
	return text.String()
}

// lines cuts letters into lines, without their ends.
func lines(row string) iter.Seq[string] {
	return func(yield func(string) bool) {
		for at := 0; at < len(row); at += width {
			if !yield(row[at:min(at+width, len(row))]) {
				return
			}
		}
	}
}

// Unfold: and back.
func Unfold(s string) (string, api.Errno) {
	var row strings.Builder
	row.Grow(len(s))
	for s != "" {
		line, rest, ended := strings.Cut(s, end)
		if !ended || !rightLength(line, rest == "") {
			return "", api.ErrForm
		}
		row.WriteString(line)
		s = rest
	}
	return Decode(row.String())
}

func rightLength(line string, last bool) bool {
	if last {
		return len(line) >= 1 && len(line) <= width
	}
	return len(line) == width
}
