package frame

import (
	"slices"
	"strings"
	"testing"

	"mailguard/api"
)

// slowStuff stuffs a text of whole lines in another way than the program.
func slowStuff(s string) string {
	return strings.ReplaceAll("\r\n"+s, "\r\n.", "\r\n..")[2:] + ".\r\n"
}

// stuffedTexts: ordinary ones, and those beside the chapter's edges.
func stuffedTexts() map[string]string {
	return map[string]string{
		"":                                ".\r\n",
		"\r\n":                            "\r\n.\r\n",
		"\r\n\r\n":                        "\r\n\r\n.\r\n",
		"a\r\n":                           "a\r\n.\r\n",
		"a\r\nb\r\n":                      "a\r\nb\r\n.\r\n",
		"a\r\n\r\nb\r\n":                  "a\r\n\r\nb\r\n.\r\n",
		".\r\n":                           "..\r\n.\r\n",
		"..\r\n":                          "...\r\n.\r\n",
		"...\r\n":                         "....\r\n.\r\n",
		".a\r\n":                          "..a\r\n.\r\n",
		"..a\r\n":                         "...a\r\n.\r\n",
		"a.\r\n":                          "a.\r\n.\r\n",
		"a..b\r\n":                        "a..b\r\n.\r\n",
		" .\r\n":                          " .\r\n.\r\n",
		".\r\n.\r\n":                      "..\r\n..\r\n.\r\n",
		".\r\n\r\n.\r\n":                  "..\r\n\r\n..\r\n.\r\n",
		"a\r\n.\r\n":                      "a\r\n..\r\n.\r\n",
		"a\r\n.b\r\nc\r\n":                "a\r\n..b\r\nc\r\n.\r\n",
		"\r\r\n":                          "\r\r\n.\r\n",
		"\n\r\n":                          "\n\r\n.\r\n",
		"\n.\r\n":                         "\n.\r\n.\r\n",
		"\r.\r\n":                         "\r.\r\n.\r\n",
		".\n\r\n":                         "..\n\r\n.\r\n",
		".\r\r\n":                         "..\r\r\n.\r\n",
		"a\n.b\r.c\r\n":                   "a\n.b\r.c\r\n.\r\n",
		"\x00\xff\r\n":                    "\x00\xff\r\n.\r\n",
		x(998) + "\r\n":                   x(998) + "\r\n.\r\n",
		x(999) + "\r\n":                   x(999) + "\r\n.\r\n",
		"." + x(998) + "\r\n":             ".." + x(998) + "\r\n.\r\n",
		x(70000) + "\r\n.a\r\n":           x(70000) + "\r\n..a\r\n.\r\n",
		"\xc3\xa9\r\n.\xff\r\n":           "\xc3\xa9\r\n..\xff\r\n.\r\n",
		strings.Repeat(".", 500) + "\r\n": strings.Repeat(".", 501) + "\r\n.\r\n",
	}
}

// behinds: what may stand behind a line of one dot.
func behinds() []string {
	return []string{"", "QUIT\r\n", "a", ".", ".\r\n", "..\r\n", ".a\r\n", "\r\n", "\r", "\n", "\r\n.\r\n", "a\r\n.\r\n", "\x00\xff", x(5000), "a\r\nb\r"}
}

// openTexts: that don't end with an end.
func openTexts() []string {
	return []string{"a", ".", "..", "\r", "\n", "\n\r", "a\r", "a\n", "a\r\nb", "a\r\n\r", "a\r\n\n", "a\r\n.", "\r\n\r", "\r\n ", "a\r\n\x00", "\r\n\n\r", "a\r \n", x(999), x(999) + "\r", "a\r\n" + x(5000), "\r\na\n"}
}

func isStuffed(t *testing.T, s, stuffed string) {
	t.Helper()
	if got, e := Stuff(s); got != stuffed || e != api.OK {
		t.Errorf("%s: %s %v, not %s", brief(s), brief(got), e, brief(stuffed))
	}
	for _, behind := range behinds() {
		if text, rest, e := Unstuff(stuffed + behind); text != s || rest != behind || e != api.OK {
			t.Errorf("%s: %s %v, not %s", brief(stuffed+behind), brief(text, rest), e, brief(s, behind))
		}
	}
}

func isNotStuffed(t *testing.T, s string) {
	t.Helper()
	if text, rest, e := Unstuff(s); text != "" || rest != "" || e != api.ErrForm {
		t.Errorf("%s: %s %v", brief(s), brief(text, rest), e)
	}
}

func TestLines(t *testing.T) {
	for s, want := range map[string][]string{
		"":                                      nil,
		"\r\n":                                  {""},
		"\r\n\r\n":                              {"", ""},
		"a\r\n":                                 {"a"},
		"a\r\nbc\r\n\r\nd\r\n":                  {"a", "bc", "", "d"},
		".\r\n..\r\n":                           {".", ".."},
		"\r\r\n":                                {"\r"},
		"\n\r\n":                                {"\n"},
		"a\rb\nc\n\rd\r\n":                      {"a\rb\nc\n\rd"},
		"\r\r\n\n\r\n\r\n":                      {"\r", "\n", ""},
		" a \r\n\t\r\n":                         {" a ", "\t"},
		x(997) + "\r\n" + x(998) + "\r\n":       {x(997), x(998)},
		x(999) + "\r\n" + x(1000) + "\r\na\r\n": {x(999), x(1000), "a"},
	} {
		if lines, e := Lines(s); !slices.Equal(lines, want) || e != api.OK {
			t.Errorf("%s: %s %v", brief(s), brief(lines...), e)
		}
	}
}

func TestOpenTexts(t *testing.T) {
	for _, s := range openTexts() {
		if lines, e := Lines(s); len(lines) != 0 || e != api.ErrForm {
			t.Errorf("%s: %s %v", brief(s), brief(lines...), e)
		}
		if stuffed, e := Stuff(s); stuffed != "" || e != api.ErrForm {
			t.Errorf("%s: %s %v", brief(s), brief(stuffed), e)
		}
	}
}

func TestLinesOfEachByte(t *testing.T) {
	for c := range 256 {
		one := string([]byte{byte(c)})
		if lines, e := Lines(one + "\r\nx" + one + "\r\n"); !slices.Equal(lines, []string{one, "x" + one}) || e != api.OK {
			t.Errorf("%q: %q %v", one, lines, e)
		}
		isStuffed(t, one+"\r\nx"+one+"\r\n", slowStuff(one+"\r\nx"+one+"\r\n"))
		isStuffed(t, "."+one+"\r\n"+one+".\r\n", slowStuff("."+one+"\r\n"+one+".\r\n"))
		for _, s := range []string{one, "a\r\n" + one, "a\r" + one} {
			whole := strings.HasSuffix(s, "\r\n")
			if _, e := Lines(s); (e == api.OK) != whole {
				t.Errorf("%q: %v", s, e)
			}
			if _, e := Stuff(s); (e == api.OK) != whole {
				t.Errorf("%q: %v", s, e)
			}
		}
	}
}

func TestLinesThatWereAnsweredAreApart(t *testing.T) {
	first, _ := Lines("a\r\nb\r\n")
	second, _ := Lines("a\r\nb\r\n")
	first[0] = "other"
	if !slices.Equal(second, []string{"a", "b"}) {
		t.Errorf("%q", second)
	}
}

func TestLinesAreThoseOfAStream(t *testing.T) {
	for _, s := range textsOf("\r\n.a", 6) {
		lines, e := Lines(s)
		f := New()
		heard := f.Feed(s)
		if (e == api.OK) != (f.Waiting() == 0) {
			t.Errorf("%q: %v, %d wait", s, e, f.Waiting())
		}
		if e != api.OK {
			continue
		}
		var texts []string
		for _, line := range heard {
			texts = append(texts, line.Text)
		}
		if !slices.Equal(lines, texts) {
			t.Errorf("%q: %q, not %q", s, lines, texts)
		}
	}
}

func TestStuff(t *testing.T) {
	for s, stuffed := range stuffedTexts() {
		isStuffed(t, s, stuffed)
		if slow := slowStuff(s); slow != stuffed {
			t.Errorf("%s: %s", brief(s), brief(slow))
		}
	}
}

func TestStuffedTwice(t *testing.T) {
	for s := range stuffedTexts() {
		once := slowStuff(s)
		isStuffed(t, once, slowStuff(once))
	}
}

func TestStuffIsEndedByItsFirstLineOfOneDot(t *testing.T) {
	for s := range stuffedTexts() {
		f := New()
		stuffed, _ := Stuff(s)
		lines := f.Feed(stuffed)
		if at := slices.Index(lines, Line{Text: "."}); at != len(lines)-1 || f.Waiting() != 0 {
			t.Errorf("%s: line %d of %d", brief(stuffed), at, len(lines))
		}
	}
}

func TestNotStuffed(t *testing.T) {
	for _, s := range []string{
		// No line of one dot.
		"", "a", "a\r\n", "\r\n", "\r\n\r\n", "a\r\nb\r\n", "..\r\n", "...\r\n", "..a\r\n", "a.\r\n", " .\r\n", ". \r\n", "a\r\n..\r\n", "\n.\r\n", "\r.\r\n", "a\n.\r\n", "a\r.\r\n", "a\r\n.\n", ".\n", ".\n\r\n", ".\r\r\n",
		// The last line is cut off.
		".", ".\r", "..", "..\r", "a\r\n.", "a\r\n.\r", "a\r\n..", "a\r\n..\r", "a\r", "\r", "\n", "a\r\nb", "..\r\n.", "..\r\n.\r", "a.\r\n.\r\r", "\r\n.\ra",
		// One dot ahead of more.
		".a\r\n.\r\n", ".a", ".a\r\n", "b\r\n.a\r\n.\r\n", ". \r\n.\r\n", ".\n\r\n.\r\n", ".\r\r\n.\r\n", ".a.\r\n.\r\n", ".\x00\r\n.\r\n", "..a\r\n.b\r\n.\r\n", ".QUIT\r\n", "a\r\n.b\r\n.\r\n.\r\n", "." + x(5000) + "\r\n.\r\n", x(5000) + "\r\n." + x(998) + "\r\n.\r\n",
	} {
		isNotStuffed(t, s)
	}
	for s := range stuffedTexts() {
		stuffed := slowStuff(s)
		isNotStuffed(t, strings.TrimSuffix(stuffed, ".\r\n")+".a\r\n.\r\n")
		isNotStuffed(t, ".a\r\n"+stuffed)
		for cut := 1; cut <= min(len(stuffed), 400); cut++ {
			isNotStuffed(t, stuffed[:len(stuffed)-cut])
		}
	}
}

func TestOneDotAheadOfEachByte(t *testing.T) {
	for c := range 256 {
		line := "." + string([]byte{byte(c)}) + "z"
		if c == '.' {
			isStuffed(t, ".z\r\n", line+"\r\n.\r\n")
			continue
		}
		isNotStuffed(t, line+"\r\n.\r\n")
		isNotStuffed(t, "a\r\n"+line+"\r\n.\r\n")
	}
}

// Of each short text is asked whether it begins with the stuffed one of any text, and of which.
func TestUnstuffOfAllShortTexts(t *testing.T) {
	of := map[string]string{}
	all := textsOf("\r\n.a", 8)
	for _, s := range all {
		if s == "" || strings.HasSuffix(s, "\r\n") {
			of[slowStuff(s)] = s
		}
	}
	for _, s := range all {
		found := false
		for till := range len(s) + 1 {
			text, ok := of[s[:till]]
			if !ok {
				continue
			}
			if found {
				t.Errorf("%q: two texts", s)
			}
			found = true
			if got, rest, e := Unstuff(s); got != text || rest != s[till:] || e != api.OK {
				t.Errorf("%q: %q %q %v, not %q %q", s, got, rest, e, text, s[till:])
			}
		}
		if !found {
			isNotStuffed(t, s)
		}
	}
}

func TestStuffOfAllShortTexts(t *testing.T) {
	for _, s := range textsOf("\r\n.a", 7) {
		stuffed, e := Stuff(s)
		if s != "" && !strings.HasSuffix(s, "\r\n") {
			if stuffed != "" || e != api.ErrForm {
				t.Errorf("%q: %q %v", s, stuffed, e)
			}
			continue
		}
		if stuffed != slowStuff(s) || e != api.OK {
			t.Errorf("%q: %q %v", s, stuffed, e)
		}
		for _, behind := range []string{"", "a", ".\r\n", "\n", ".a\r\n"} {
			if text, rest, e := Unstuff(stuffed + behind); text != s || rest != behind || e != api.OK {
				t.Errorf("%q: %q %q %v", stuffed+behind, text, rest, e)
			}
		}
	}
}
