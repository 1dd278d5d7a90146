package words

import (
	"slices"
	"strings"
	"testing"

	"mailguard/api"
	"mailguard/base64"
)

// slowPlain tells in another way than the program whether a body is plain.
func slowPlain(s string) bool {
	var ahead byte
	for _, c := range []byte(s) {
		if c <= 31 || c >= 127 || ahead == 61 && c == 63 {
			return false
		}
		ahead = c
	}
	return true
}

// word: an encoded word of those bytes, whatever they are.
func word(s string) string { return "=?UTF-8?B?" + base64.Encode(s) + "?=" }

// inWords: words of 45 bytes each, whatever the bytes are.
func inWords(s string) string {
	var all []string
	for some := range slices.Chunk([]byte(s), 45) {
		all = append(all, word(string(some)))
	}
	return strings.Join(all, " ")
}

func slowly(s string) string {
	if slowPlain(s) {
		return s
	}
	return inWords(s)
}

func x(count int) string { return strings.Repeat("x", count) }

// isText checks that a body has that text, and that the text says the body.
func isText(t *testing.T, s, text string) {
	t.Helper()
	if got := Encode(s); got != text {
		t.Errorf("%q: %q, not %q", s, got, text)
	}
	if got, e := Decode(text); got != s || e != api.OK {
		t.Errorf("%q: %q %v, not %q", text, got, e, s)
	}
	if at := strings.IndexFunc(text, func(c rune) bool { return c < 32 || c > 126 }); at >= 0 {
		t.Errorf("%q: byte %d", text, at)
	}
}

func saysNothing(t *testing.T, text string) {
	t.Helper()
	if got, e := Decode(text); got != "" || e != api.ErrForm {
		t.Errorf("%q: %q %v", text, got, e)
	}
}

// plainBodies: those beside the edges of what is plain among them.
func plainBodies() []string {
	return []string{
		"", "hello", "hello world", "Hello, World!", " ", "  ", " a", "a ", "a  b", "~", " ~", "!", "x" + x(200), strings.Repeat(" ", 100),
		"=", "?", "?=", "??", "==", "= ?", "=x?", "a=", "?a", "a=b?c", "= ?=", "==x?", "?=a?=", "=UTF-8?B?YWJj?=", "?UTF-8?B?YWJj?=", "UTF-8?B?YWJj",
		x(44), x(45), x(46), x(89), x(90), x(91), x(44) + "=", "?" + x(44), x(44) + "= ?", "w6k=", "YQ==",
	}
}

// otherBodies: that aren't plain.
func otherBodies() []string {
	return []string{
		"=?", "a=?", "=?b", "a=?b", "=?=", "?=?", "==?", "=??", "=?=?", " =?", "=? ", "hello =? world", "=?UTF-8?B?YQ==?=", "=?UTF-8?B?w6k=?=", x(300) + "=?", "=?" + x(300),
		"\x00", "\x1f", "\x7f", "\x80", "\xff", "\t", "\r", "\n", "\r\n", "a\tb", "a\r\n b", "a\x1f", "\x1fa", "\x7fa", "a\x7f", "\xc3\xa9", "caf\xc3\xa9", "=\x00?", "\xe9", "\xc2\xa0", "\xef\xbf\xbd", "\xed\xa0\x80", x(300) + "\x7f", "\x1f" + x(300),
	}
}

func TestPlain(t *testing.T) {
	for _, s := range plainBodies() {
		if !Plain(s) {
			t.Errorf("%q isn't plain", s)
		}
		isText(t, s, s)
	}
	for _, s := range otherBodies() {
		if Plain(s) {
			t.Errorf("%q is plain", s)
		}
		isText(t, s, inWords(s))
		saysNothing(t, word(x(3))+" "+s)
	}
}

func TestPlainOfTwoBytes(t *testing.T) {
	for both := range 1 << 16 {
		s := string([]byte{byte(both >> 8), byte(both)})
		if Plain(s) != slowPlain(s) {
			t.Errorf("%q: %v", s, Plain(s))
		}
		isText(t, s, slowly(s))
	}
}

func TestEachByte(t *testing.T) {
	var all []byte
	for c := range 256 {
		all = append(all, byte(c))
		one := string([]byte{byte(c)})
		if plain := c >= 32 && c <= 126; Plain(one) != plain {
			t.Errorf("%d: %v", c, !plain)
		}
		for _, s := range []string{one, one + "a", "a" + one, "a" + one + "b", one + one, "=" + one, one + "?", "=" + one + "?", x(44) + one, x(45) + one, one + x(45), strings.Repeat(one, 90), x(100) + one + x(100)} {
			if Plain(s) != slowPlain(s) {
				t.Errorf("%q: %v", s, Plain(s))
			}
			isText(t, s, slowly(s))
		}
	}
	isText(t, string(all), inWords(string(all)))
}

func TestTexts(t *testing.T) {
	letters := func(count int) string { return strings.Repeat("A", count) }
	zeros := func(count int) string { return strings.Repeat("\x00", count) }
	full := "=?UTF-8?B?" + letters(60) + "?="
	for s, text := range map[string]string{
		"\xc3\xa9":         "=?UTF-8?B?w6k=?=",
		"=?":               "=?UTF-8?B?PT8=?=",
		"a\t":              "=?UTF-8?B?YQk=?=",
		"\x00":             "=?UTF-8?B?AA==?=",
		"\x1f":             "=?UTF-8?B?Hw==?=",
		"\x7f":             "=?UTF-8?B?fw==?=",
		"\xff\xff\xff":     "=?UTF-8?B?////?=",
		"=?UTF-8?B?YQ==?=": "=?UTF-8?B?PT9VVEYtOD9CP1lRPT0/PQ==?=",
		zeros(44):          "=?UTF-8?B?" + letters(59) + "=?=",
		zeros(45):          full,
		zeros(46):          full + " =?UTF-8?B?AA==?=",
		zeros(47):          full + " =?UTF-8?B?AAA=?=",
		zeros(48):          full + " =?UTF-8?B?AAAA?=",
		zeros(89):          full + " =?UTF-8?B?" + letters(59) + "=?=",
		zeros(90):          full + " " + full,
		zeros(91):          full + " " + full + " =?UTF-8?B?AA==?=",
		// The one byte that isn't plain stands in the last word alone.
		strings.Repeat("a", 45) + "\t":  "=?UTF-8?B?" + strings.Repeat("YWFh", 15) + "?= =?UTF-8?B?CQ==?=",
		strings.Repeat("a", 90) + "a\t": "=?UTF-8?B?" + strings.Repeat("YWFh", 15) + "?= =?UTF-8?B?" + strings.Repeat("YWFh", 15) + "?= =?UTF-8?B?YQk=?=",
		// =? stands half in one word, half in the next.
		strings.Repeat("a", 44) + "=?": "=?UTF-8?B?" + strings.Repeat("YWFh", 14) + "YWE9?= =?UTF-8?B?Pw==?=",
		// A letter of more bytes than one does too.
		strings.Repeat("a", 44) + "\xc3\xa9": "=?UTF-8?B?" + strings.Repeat("YWFh", 14) + "YWHD?= =?UTF-8?B?qQ==?=",
	} {
		isText(t, s, text)
	}
}

func TestTextsOfEachLength(t *testing.T) {
	for count := range 300 {
		for _, s := range []string{x(count), x(count) + "\t", "\t" + x(count), x(count/2) + "\xe9" + x(count-count/2), x(count) + "=?", "=?" + x(count), strings.Repeat("\xc3\xa9 =", count)[:count]} {
			isText(t, s, slowly(s))
		}
	}
	for _, s := range []string{x(100003), x(100003) + "\xff", strings.Repeat("\xff\x00=?", 30001)} {
		isText(t, s, slowly(s))
	}
}

func TestWordsOfATextAreFullButTheLast(t *testing.T) {
	for count := 1; count < 300; count++ {
		all := strings.Split(Encode(strings.Repeat("\xff", count)), " ")
		for i, one := range all {
			some, e := Decode(one)
			if want := min(45, count-45*i); len(some) != want || e != api.OK {
				t.Errorf("%d bytes, word %d: %q %v", count, i, some, e)
			}
		}
		if want := (count + 44) / 45; len(all) != want {
			t.Errorf("%d bytes: %d words, not %d", count, len(all), want)
		}
	}
}

// wrongTexts: that say nothing, and wouldn't with a word more ahead of them or behind.
func wrongTexts() []string {
	return []string{
		// A word of no bytes, or of more than 45.
		"=?UTF-8?B??=", word(x(46)), word("\xe9" + x(45)), word(x(47) + "\xe9"), word(strings.Repeat("\xe9", 48)), word(strings.Repeat("\xe9", 90)),
		// Two blanks, a blank at the beginning or the end, or something else than a blank.
		word("\xe9") + "  " + word("\xe9"), word(x(45)) + "  " + word("\xe9"), " " + word("\xe9"), word("\xe9") + " ", "  " + word("\xe9"), word("\xe9") + "  ", word(x(45)) + " " + word("\xe9") + " ",
		word(x(45)) + "\t" + word("\xe9"), word(x(45)) + "\r\n" + word("\xe9"), word(x(45)) + "\r\n " + word("\xe9"), word(x(45)) + " \r\n" + word("\xe9"), word(x(45)) + "\n" + word("\xe9"), word(x(45)) + "," + word("\xe9"), word(x(45)) + word("\xe9"), word("\xe9") + "\r\n", "\r\n" + word("\xe9"), word("\xe9") + "\n", word(x(45)) + "\xc2\xa0" + word("\xe9"),
		// A plain text beside a word.
		"x " + word("\xe9"), word("\xe9") + " x", "x" + word("\xe9"), word("\xe9") + "x", word(x(45)) + " x " + word("\xe9"), "x " + word(x(45)) + " " + word("\xe9"), "Re: " + word("\xe9"), "(" + word("\xe9") + ")", "?" + word("\xe9"), word("\xe9") + "=",
		// Another charset or coding, or small letters.
		"=?utf-8?B?w6k=?=", "=?Utf-8?B?w6k=?=", "=?UTF-8?b?w6k=?=", "=?utf-8?b?w6k=?=", "=?UTF8?B?w6k=?=", "=?UTF-16?B?w6k=?=", "=?ISO-8859-1?B?6Q==?=", "=?US-ASCII?B?YQk=?=", "=??B?w6k=?=", "=?UTF-8?Q?=C3=A9?=", "=?UTF-8?q?=C3=A9?=", "=?UTF-8??w6k=?=", "=?UTF-8?w6k=?=", "=?B?w6k=?=", "=?UTF-8*en?B?w6k=?=", "=? UTF-8?B?w6k=?=",
		// No ?= or =?, or others.
		"=?UTF-8?B?w6k=", "=?UTF-8?B?w6k=?", "=?UTF-8?B?w6k==", "=?UTF-8?B?w6k", "=?UTF-8?B?w6k?=", "=?UTF-8?B?", "=?UTF-8?B?=", "=?UTF-8?B?=?=", "=?UTF-8?B", "=?UTF-8", "=?", "=?=", "=??=", "=?UTF-8?B?w6k=?=?=", "=?=?UTF-8?B?w6k=?=", "=?UTF-8?B?=?UTF-8?B?w6k=?=", "=?UTF-8?B?w6k=?w6k=?=", "=?UTF-8?B?w6k=?= =?", "=? =?UTF-8?B?w6k=?=",
		// Letters that are none, or too many or too few.
		"=?UTF-8?B?w6k?=", "=?UTF-8?B?w6k==?=", "=?UTF-8?B?w6?=", "=?UTF-8?B?w?=", "=?UTF-8?B?w6k-?=", "=?UTF-8?B?w6k_?=", "=?UTF-8?B?w6k ?=", "=?UTF-8?B? w6k=?=", "=?UTF-8?B?w6k= ?=", "=?UTF-8?B?w6 k=?=", "=?UTF-8?B?w6k=\r\n?=", "=?UTF-8?B?w6\r\nk=?=", "=?UTF-8?B?====?=", "=?UTF-8?B?=w6k?=", "=?UTF-8?B?w6k=w6k=?=", "=?UTF-8?B?6===?=", "=?UTF-8?B?w6\x00=?=", "=?UTF-8?B?w6\xff=?=", "=?UTF-8?B?\xc3\xa9?=",
		// Filled up with something else than noughts.
		"=?UTF-8?B?w6l=?=", "=?UTF-8?B?w6m=?=", "=?UTF-8?B?w6n=?=", "=?UTF-8?B?6R==?=", "=?UTF-8?B?6Z==?=", "=?UTF-8?B?6f==?=", "=?UTF-8?B?//==?=", "=?UTF-8?B?///=?=",
		// A text of bytes that aren't plain.
		"\xe9", "\xc3\xa9", "\t", "\x00", "\x1f", "\x7f", "a\r\nb", "caf\xc3\xa9 x",
	}
}

func TestWrongTexts(t *testing.T) {
	full := word("\xe9" + x(44))
	for _, text := range wrongTexts() {
		saysNothing(t, text)
		saysNothing(t, full+" "+text)
		saysNothing(t, text+" "+word("\xe9"))
		saysNothing(t, full+" "+text+" "+full)
	}
}

func TestWordsThatSayAPlainBody(t *testing.T) {
	for _, s := range plainBodies() {
		if s != "" {
			saysNothing(t, inWords(s))
		}
	}
	for count := 1; count < 200; count++ {
		saysNothing(t, inWords(x(count)))
		isText(t, x(count)+"\t", inWords(x(count)+"\t"))
	}
}

func TestWordsThatArentFull(t *testing.T) {
	full, last := word("\xe9"+x(44)), word("\xe9")
	isText(t, "\xe9"+x(44)+"\xe9", full+" "+last)
	for count := range 91 {
		short := word("\xe9" + x(count))
		if count == 44 {
			continue
		}
		for _, text := range []string{short + " " + last, short + " " + full, full + " " + short + " " + last, short + " " + short, short + " " + word("a")} {
			saysNothing(t, text)
		}
	}
}

func TestAnEncodedTextIsABodyToo(t *testing.T) {
	s := "caf\xc3\xa9"
	for range 6 {
		text := Encode(s)
		isText(t, s, text)
		s = text
	}
}

// each hands every text of at most that many of the units to what is done.
func each(units []string, left int, s string, do func(s string)) {
	do(s)
	if left == 0 {
		return
	}
	for _, unit := range units {
		each(units, left-1, s+unit, do)
	}
}

func TestNoOtherTextSaysSomething(t *testing.T) {
	plain, other := strings.Repeat("a", 45), strings.Repeat("\xff", 45)
	said := map[string]string{}
	for _, first := range []string{"", plain, other} {
		for _, last := range []string{"a", "\xc3\xa9", plain, other} {
			if text := slowly(first + last); text != first+last {
				said[text] = first + last
			}
		}
	}
	units := []string{"=?UTF-8?B?", "?=", " ", "YQ==", "w6k=", base64.Encode(plain), base64.Encode(other)}
	// Seven of these units make two words with a blank between, and no three.
	each(units, 7, "", func(text string) {
		s, ok := said[text]
		if slowPlain(text) {
			s, ok = text, true
		}
		got, e := Decode(text)
		if ok && (got != s || e != api.OK) || !ok && (got != "" || e != api.ErrForm) {
			t.Errorf("%q: %q %v", text, got, e)
		}
	})
}

func TestChangedTextsSayTheirOwnOrNothing(t *testing.T) {
	for _, s := range []string{"\xe9", "caf\xc3\xa9", x(44) + "\xff", x(45) + "\xff", "=?" + x(91)} {
		text := Encode(s)
		for at := range len(text) {
			saysItsOwn(t, text[:at]+text[at+1:])
			for c := range 256 {
				saysItsOwn(t, text[:at]+string([]byte{byte(c)})+text[at+1:])
				saysItsOwn(t, text[:at]+string([]byte{byte(c)})+text[at:])
			}
		}
	}
}

// saysItsOwn checks that what a text says has that text, whatever it is.
func saysItsOwn(t *testing.T, text string) {
	t.Helper()
	s, e := Decode(text)
	if e == api.ErrForm && s == "" {
		return
	}
	if e != api.OK || slowly(s) != text {
		t.Errorf("%q: %q %v", text, s, e)
	}
}
