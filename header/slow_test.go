package header

import (
	"bytes"
	"fmt"
	"regexp"
	"strings"
	"testing"

	"mailguard/api"
)

func x(count int) string { return strings.Repeat("x", count) }

func blanksOf(count int) string { return strings.Repeat(" ", count) }

// one is a text of that byte.
func one(c int) string { return string([]byte{byte(c)}) }

// brief tells a text so that its bytes are seen, of a long one the first and the last.
func brief(s string) string {
	if len(s) > 90 {
		return fmt.Sprintf("%q..%d..%q", s[:45], len(s)-90, s[len(s)-45:])
	}
	return fmt.Sprintf("%q", s)
}

func briefFields(l []api.Field) string {
	var all []string
	for _, f := range l[:min(len(l), 5)] {
		all = append(all, brief(f.Name)+": "+brief(f.Body))
	}
	return fmt.Sprintf("%d fields: %s", len(l), strings.Join(all, "; "))
}

var (
	slowName = regexp.MustCompile(`\A[!-9;-~]{1,64}\z`)
	slowBody = regexp.MustCompile(`\A(?s:[^\x00\r\n \t]|[^\x00\r\n \t][^\x00\r\n]*[^\x00\r\n \t])?\z`)
	slowWord = regexp.MustCompile(` +[^ ]*`)
	goesOnBy = regexp.MustCompile(`\r\n([ \t])`)
	slowLine = regexp.MustCompile(`\A(?s:([^:]*):[ \t]*(.*?)[ \t]*)\z`)
)

// slowRight tells in another way than the program whether a field is right.
func slowRight(f api.Field) bool {
	return slowName.MatchString(f.Name) && slowBody.MatchString(f.Body)
}

// slowSame: with the letters' names written out.
func slowSame(a, b string) bool {
	for i, c := range "ABCDEFGHIJKLMNOPQRSTUVWXYZ" {
		small := []byte{"abcdefghijklmnopqrstuvwxyz"[i]}
		a = string(bytes.ReplaceAll([]byte(a), []byte(string(c)), small))
		b = string(bytes.ReplaceAll([]byte(b), []byte(string(c)), small))
	}
	return a == b
}

// slowFold answers a right field's folded lines: a word is taken together with all the blanks ahead of it, of which but the last one goes to the next line.
func slowFold(f api.Field) []string {
	if f.Body == "" {
		return []string{f.Name + ":"}
	}
	lines := []string{f.Name + ":"}
	for i, word := range slowWord.FindAllString(" "+f.Body, -1) {
		last := &lines[len(lines)-1]
		bare := strings.TrimLeft(word, " ")
		if whole := *last + word; i == 0 || len(whole) <= 78 {
			*last = whole
			continue
		}
		*last += strings.Repeat(" ", len(word)-len(bare)-1)
		lines = append(lines, " "+bare)
	}
	return lines
}

func slowPrint(l []api.Field) (string, api.Errno) {
	var lines []string
	wrong, long := false, len(l) > 64
	for _, f := range l {
		if !slowRight(f) {
			wrong = true
			continue
		}
		lines = append(lines, slowFold(f)...)
	}
	for _, line := range lines {
		long = long || len(line) > 998
	}
	switch {
	case wrong:
		return "", api.ErrForm
	case long:
		return "", api.ErrLong
	}
	return strings.Join(append(lines, "", ""), "\r\n"), api.OK
}

// slowParse: cuts the whole text at all its ends, and joins the lines anew.
func slowParse(s string) ([]api.Field, string, api.Errno) {
	pieces := strings.Split(s, "\r\n")
	at := 0
	for at < len(pieces)-1 && pieces[at] != "" {
		at++
	}
	if at == len(pieces)-1 {
		return nil, "", api.ErrForm
	}
	for _, line := range pieces[:at] {
		if len(line) > 998 {
			return nil, "", api.ErrLong
		}
	}
	rest := strings.Join(pieces[at+1:], "\r\n")
	if at == 0 {
		return nil, rest, api.OK
	}
	var l []api.Field
	for _, line := range strings.Split(goesOnBy.ReplaceAllString(strings.Join(pieces[:at], "\r\n"), "$1"), "\r\n") {
		found := slowLine.FindStringSubmatch(line)
		if found == nil || !slowRight(api.Field{Name: found[1], Body: found[2]}) {
			return nil, "", api.ErrForm
		}
		l = append(l, api.Field{Name: found[1], Body: found[2]})
	}
	if len(l) > 64 {
		return nil, "", api.ErrLong
	}
	return l, rest, api.OK
}

// textsOf answers all texts of at most so many of the letters.
func textsOf(letters string, most int) []string {
	all := []string{""}
	from := 0
	for range most {
		till := len(all)
		for _, s := range all[from:till] {
			for i := range len(letters) {
				all = append(all, s+letters[i:i+1])
			}
		}
		from = till
	}
	return all
}

func TestTextsOf(t *testing.T) {
	if all := textsOf("ab", 3); len(all) != 15 || all[0] != "" || all[14] != "bbb" {
		t.Error(all)
	}
}
