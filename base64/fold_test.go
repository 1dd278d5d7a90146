package base64

import (
	"slices"
	"strings"
	"testing"

	"mailguard/api"
)

// slowlyFolded cuts the slowly made letters into lines, one letter after the other.
func slowlyFolded(s string) string {
	var text []byte
	for i, c := range []byte(slowly(s)) {
		if i > 0 && i%76 == 0 {
			text = append(text, 13, 10)
		}
		text = append(text, c)
	}
	if len(text) > 0 {
		text = append(text, 13, 10)
	}
	return string(text)
}

func isFolded(t *testing.T, s, text string) {
	t.Helper()
	if got := Fold(s); got != text {
		t.Errorf("%q: %q, not %q", s, got, text)
	}
	if got, e := Unfold(text); got != s || e != api.OK {
		t.Errorf("%q: %q %v, not %q", text, got, e, s)
	}
}

func isNotFolded(t *testing.T, text string) {
	t.Helper()
	if got, e := Unfold(text); got != "" || e != api.ErrForm {
		t.Errorf("%q: %q %v", text, got, e)
	}
}

func TestFolded(t *testing.T) {
	a := func(n int) string { return strings.Repeat("A", n) }
	for _, x := range []struct{ s, text string }{
		{"", ""},
		{"a", "YQ==\r\n"},
		{"ab", "YWI=\r\n"},
		{"abc", "YWJj\r\n"},
		{zeros(54), a(72) + "\r\n"},
		{zeros(55), a(74) + "==\r\n"},
		{zeros(56), a(75) + "=\r\n"},
		{zeros(57), a(76) + "\r\n"},
		{zeros(58), a(76) + "\r\nAA==\r\n"},
		{zeros(59), a(76) + "\r\nAAA=\r\n"},
		{zeros(60), a(76) + "\r\nAAAA\r\n"},
		{zeros(111), a(76) + "\r\n" + a(72) + "\r\n"},
		{zeros(113), a(76) + "\r\n" + a(75) + "=\r\n"},
		{zeros(114), a(76) + "\r\n" + a(76) + "\r\n"},
		{zeros(115), a(76) + "\r\n" + a(76) + "\r\nAA==\r\n"},
		{zeros(171), strings.Repeat(a(76)+"\r\n", 3)},
	} {
		isFolded(t, x.s, x.text)
	}
	for s, row := range rows() {
		if s != "" {
			isFolded(t, s, row+"\r\n")
		}
	}
}

func zeros(n int) string { return strings.Repeat("\x00", n) }

func TestFoldedOfEachLength(t *testing.T) {
	for n := range 400 {
		s := someBytes(n)
		isFolded(t, s, slowlyFolded(s))
	}
	for _, n := range []int{57 * 100, 57*100 + 1, 57*100 - 1, 57*1000 + 3} {
		s := someBytes(n)
		isFolded(t, s, slowlyFolded(s))
	}
}

func TestFoldedOfEachByte(t *testing.T) {
	for c := range 256 {
		for _, n := range []int{1, 2, 3, 56, 57, 58} {
			s := strings.Repeat(string([]byte{byte(c)}), n)
			isFolded(t, s, slowlyFolded(s))
		}
	}
}

func TestLinesOfFolded(t *testing.T) {
	for n := 1; n < 400; n++ {
		pieces := strings.SplitAfter(Fold(someBytes(n)), "\r\n")
		lines, behind := pieces[:len(pieces)-1], pieces[len(pieces)-1]
		if behind != "" {
			t.Errorf("%d: %q behind the last end", n, behind)
		}
		for i, line := range lines {
			if last := i == len(lines)-1; len(line) != 78 && !last || len(line) > 78 || len(line) < 3 {
				t.Errorf("%d: line %d: %q", n, i, line)
			}
		}
	}
}

func TestLinesThatAreLongOrShort(t *testing.T) {
	row := Encode(someBytes(57 * 4)) // four full lines
	for first := range 200 {
		for _, second := range []int{1, 4, 72, 75, 76, 77, 80, len(row) - first} {
			if second <= 0 || first+second > len(row) {
				continue
			}
			text := row[:first] + "\r\n" + row[first:first+second] + "\r\n"
			// Two lines are folded, if the first is full, and the second a row of at most 76.
			if first == 76 && second <= 76 && second%4 == 0 {
				s, _ := Decode(row[:first+second])
				isFolded(t, s, text)
			} else {
				isNotFolded(t, text)
			}
		}
	}
	for only := range 200 {
		text := row[:only] + "\r\n"
		if only > 0 && only <= 76 && only%4 == 0 {
			s, _ := Decode(row[:only])
			isFolded(t, s, text)
		} else {
			isNotFolded(t, text)
		}
	}
}

func TestWrongEnds(t *testing.T) {
	for _, n := range []int{1, 2, 3, 54, 56, 57, 58, 60, 114, 115, 171, 200} {
		s := someBytes(n)
		text, row := Fold(s), Encode(s)
		bare := strings.TrimSuffix(text, "\r\n")
		for _, wrong := range []string{
			row, bare, bare + "\r", bare + "\n", bare + "\n\r", text + "\r\n", text + "\r", text + "\n", text + "\r\n\r\n",
			"\r\n" + text, "\r" + text, "\n" + text, bare + "\r\r\n", bare + "\n\r\n", bare + "\r\n\n", bare + " \r\n", " " + text, text + " ",
			strings.ReplaceAll(text, "\r\n", "\n"), strings.ReplaceAll(text, "\r\n", "\r"), strings.ReplaceAll(text, "\r\n", "\n\r"),
			strings.ReplaceAll(text, "\r\n", "\r\n\r\n"), strings.ReplaceAll(text, "\r\n", "\r\n "), strings.ReplaceAll(text, "\r\n", "  "),
		} {
			isNotFolded(t, wrong)
		}
	}
	for _, wrong := range []string{"\r\n", "\r", "\n", "\n\r", "\r\n\r\n", " ", " \r\n", "=", "=\r\n", "====\r\n"} {
		isNotFolded(t, wrong)
	}
}

func TestEndsWithinLines(t *testing.T) {
	for _, n := range []int{1, 3, 57, 58, 120} {
		text := Fold(someBytes(n))
		for at := range len(text) + 1 {
			for _, more := range []string{"\r\n", "\r", "\n", "A", "=", " "} {
				isNotFolded(t, text[:at]+more+text[at:])
			}
			if at < len(text) {
				isNotFolded(t, text[:at]+text[at+1:])
			}
		}
	}
}

func TestWrongRowsFolded(t *testing.T) {
	full := strings.Repeat("YWJj", 19) + "\r\n"
	for _, row := range wrongRows() {
		// With an end behind it some of them is folded.
		if strings.Contains(row, "\r\n") {
			continue
		}
		for _, text := range []string{row, full + row, row + "\r\n", full + row + "\r\n"} {
			isNotFolded(t, text)
		}
	}
	for _, text := range []string{
		"YQ\r\n==\r\n", "YQ==\r\nYQ==\r\n", "YWJj\r\nYWJj\r\n",
		strings.Repeat("A", 74) + "==\r\nAAAA\r\n", strings.Repeat("A", 75) + "=\r\nAAAA\r\n",
		strings.Repeat("A", 76) + "\r\n====\r\n", strings.Repeat("A", 76) + "\r\nAA\r\n==\r\n",
		strings.Repeat("A", 76) + "\r\n=\r\n", strings.Repeat("A", 75) + "B=\r\n", strings.Repeat("A", 73) + "B==\r\n",
		strings.Repeat("A", 76) + "\r\nAB==\r\n",
	} {
		isNotFolded(t, text)
	}
}

func TestFoldedIsNoRowButOfNothing(t *testing.T) {
	for n := 1; n < 200; n++ {
		isNoRow(t, Fold(someBytes(n)))
		isNotFolded(t, Encode(someBytes(n)))
	}
	isRow(t, "", Fold(""))
}

func TestLinesCutOffEarly(t *testing.T) {
	row := strings.Repeat("A", 200)
	if got := slices.Collect(lines(row)); !slices.Equal(got, []string{row[:76], row[:76], row[:48]}) {
		t.Error(got)
	}
	for line := range lines(row) {
		if line != row[:76] {
			t.Error(line)
		}
		break
	}
}
