package header

import (
	"math/rand"
	"slices"
	"strings"
	"testing"

	"mailguard/api"
)

// parses checks what a text tells, and against the slow way.
func parses(t *testing.T, s string, want []api.Field, rest string) {
	t.Helper()
	if l, r, e := Parse(s); !slices.Equal(l, want) || r != rest || e != api.OK {
		t.Errorf("%s: %s, %s %d, not %s, %s", brief(s), briefFields(l), brief(r), e, briefFields(want), brief(rest))
	}
	if l, r, e := slowParse(s); !slices.Equal(l, want) || r != rest || e != api.OK {
		t.Errorf("%s: slowly %s, %s %d", brief(s), briefFields(l), brief(r), e)
	}
}

// refused checks that a text is refused so, and against the slow way.
func refused(t *testing.T, s string, want api.Errno) {
	t.Helper()
	if l, r, e := Parse(s); len(l) != 0 || r != "" || e != want {
		t.Errorf("%s: %s, %s %d, not %d", brief(s), briefFields(l), brief(r), e, want)
	}
	if _, _, e := slowParse(s); e != want {
		t.Errorf("%s: slowly %d, not %d", brief(s), e, want)
	}
}

// agrees checks a text against the slow way alone.
func agrees(t *testing.T, s string) {
	t.Helper()
	want, rest, e := slowParse(s)
	if l, r, g := Parse(s); !slices.Equal(l, want) || r != rest || g != e {
		t.Errorf("%s: %s, %s %d, not %s, %s %d", brief(s), briefFields(l), brief(r), g, briefFields(want), brief(rest), e)
	}
}

// behinds: what may stand behind the empty line's end.
func behinds() []string {
	return []string{"", "rest", "rest\r\n", "\r\n", "\r\n\r\n", "\r", "\n", "\n\r\n", "A: b\r\n\r\n", " goes on\r\n", "\tgoes on", ":\r\n", "a\r\nb\r\n\r\nc", ".\r\n", "\x00\xff\r\n\r\n", x(999), x(5000) + "\r\n\r\n", strings.Repeat("A:\r\n", 70) + "\r\n"}
}

func field(name, body string) []api.Field { return []api.Field{{Name: name, Body: body}} }

// texts: headers, with what they tell.
func texts() map[string][]api.Field {
	return map[string][]api.Field{
		"\r\n":                                      nil,
		"A: b\r\n\r\n":                              field("A", "b"),
		"A:b\r\n\r\n":                               field("A", "b"),
		"A:\r\n\r\n":                                field("A", ""),
		"A: \r\n\r\n":                               field("A", ""),
		"A:\t \t\r\n\r\n":                           field("A", ""),
		"Subject: a\r\n b\r\n\r\n":                  field("Subject", "a b"),
		"Subject: a\r\n\tb\r\n\r\n":                 field("Subject", "a\tb"),
		"A: \t b \r\n \t c\r\nB:\r\n \r\n\r\n":      {{Name: "A", Body: "b  \t c"}, {Name: "B"}},
		"A: \t b\t \r\n\r\n":                        field("A", "b"),
		"A:  b  c  \r\n\r\n":                        field("A", "b  c"),
		"A: b: c\r\n\r\n":                           field("A", "b: c"),
		"A::\r\n\r\n":                               field("A", ":"),
		"A:: :\r\n\r\n":                             field("A", ": :"),
		"A:\r\n b\r\n\r\n":                          field("A", "b"),
		"A:\r\n\tb:c\r\n\r\n":                       field("A", "b:c"),
		"A:\r\n \r\n\t\r\n  b\r\n \r\n\r\n":         field("A", "b"),
		"A: a\r\n \r\n b\r\n\r\n":                   field("A", "a  b"),
		"A: a\r\n b\r\n\tc\r\n  d\r\n\r\n":          field("A", "a b\tc  d"),
		"A: a \r\n b\r\n\r\n":                       field("A", "a  b"),
		"A: a\r\nB: b\r\n\r\n":                      {{Name: "A", Body: "a"}, {Name: "B", Body: "b"}},
		"A: a\r\n b\r\nB: c\r\n\td\r\nA: e\r\n\r\n": {{Name: "A", Body: "a b"}, {Name: "B", Body: "c\td"}, {Name: "A", Body: "e"}},
		"a:1\r\nA:2\r\n\r\n":                        {{Name: "a", Body: "1"}, {Name: "A", Body: "2"}},
		"!:1\r\n~:2\r\n\r\n":                        {{Name: "!", Body: "1"}, {Name: "~", Body: "2"}},
		x(64) + ":\r\n\r\n":                         field(x(64), ""),
		x(64) + ": b\r\n\r\n":                       field(x(64), "b"),
		"A: \xff\x01\x7f\r\n\r\n":                   field("A", "\xff\x01\x7f"),
		"A:\xc2\xa0b\xc2\xa0\r\n\r\n":               field("A", "\xc2\xa0b\xc2\xa0"),
		"A:\x0bb\x0c\r\n\r\n":                       field("A", "\x0bb\x0c"),
		"A: " + x(995) + "\r\n\r\n":                 field("A", x(995)),
		"A:" + x(996) + "\r\n\r\n":                  field("A", x(996)),
		"A:" + x(996) + "\r\n " + x(997) + "\r\n\t" + x(997) + "\r\n\r\n": field("A", x(996)+" "+x(997)+"\t"+x(997)),
		"A:" + blanksOf(996) + "\r\n" + blanksOf(998) + "\r\n\r\n":        field("A", ""),
		"A:b\r\n" + strings.Repeat(" "+x(997)+"\r\n", 300) + "\r\n":       field("A", "b"+strings.Repeat(" "+x(997), 300)),
	}
}

func TestParse(t *testing.T) {
	for s, want := range texts() {
		for _, behind := range behinds() {
			parses(t, s+behind, want, behind)
		}
	}
}

// TestParseOfNoEmptyLine: nor of one without an end; this goes ahead of all other errors.
func TestParseOfNoEmptyLine(t *testing.T) {
	for _, s := range []string{
		"", "\r", "\n", "\n\r", "\r\r", "\n\n", " ", "a", "A: b", "A: b\r", "A: b\r\n", "A: b\n\n", "A: b\r\r", "A: b\r\n\r", "A: b\r\n\n", "A: b\r\n \r\n", "A: b\r\n\t\r\n", "A: b\r\n\n\r\n", "A: b\r\n\r\r\n", "A: b\n\r\n", "A: b\r\nC: d\r\n", "A: b\r\n c\r\n",
		" A: b\r\n", "A\r\n", ":\r\n", "A b: c\r\n", "A: b\x00\r\n",
		x(999), x(999) + "\r\n", "A:" + x(5000) + "\r\n\r", strings.Repeat("A:\r\n", 65),
	} {
		refused(t, s, api.ErrForm)
	}
	// Each beginning of a text with its empty line has none.
	for s := range texts() {
		for cut := 1; cut <= min(len(s), 300); cut++ {
			refused(t, s[:len(s)-cut], api.ErrForm)
		}
	}
}

// TestParseOfLongLines: whatever else is wrong, and wherever.
func TestParseOfLongLines(t *testing.T) {
	for _, s := range []string{
		x(999) + "\r\n\r\n", "A:" + x(997) + "\r\n\r\n", "A: " + x(996) + "\r\n\r\n", "A:" + blanksOf(997) + "\r\n\r\n", "A: " + x(5000) + "\r\n\r\n",
		"A: b\r\n " + x(998) + "\r\n\r\n", "A: b\r\n" + blanksOf(999) + "\r\n\r\n", "A: b\r\n\t" + x(998) + "\r\nB:\r\n\r\n", "A: b\r\nB:" + x(997) + "\r\n\r\n", "A: b\r\nB:" + x(997) + "\r\nC: d\r\n\r\n",
		x(998) + "\r\r\n\r\n", x(998) + "\n\r\n\r\n",
		// Ahead of what isn't of the form.
		" A: b\r\nB:" + x(997) + "\r\n\r\n", "\t" + x(998) + "\r\n\r\n", "A\r\nB:" + x(997) + "\r\n\r\n", "B:" + x(997) + "\r\nA\r\n\r\n", "A b: c\r\nB:" + x(997) + "\r\n\r\n", "A: \x00\r\n " + x(998) + "\r\n\r\n", "A: b\nc\r\n" + x(999) + "\r\n\r\n", ":\r\n" + x(65) + ":\r\n" + x(999) + "\r\n\r\n",
		strings.Repeat("A:\r\n", 65) + "B:" + x(997) + "\r\n\r\n", strings.Repeat("A\r\n", 65) + "B:" + x(997) + "\r\n\r\n",
	} {
		for _, behind := range behinds() {
			refused(t, s+behind, api.ErrLong)
		}
	}
	// A long one behind the empty line plays no part.
	parses(t, "A: b\r\n\r\n"+x(999)+"\r\n\r\n", field("A", "b"), x(999)+"\r\n\r\n")
	parses(t, "\r\n"+x(999)+"\r\n", nil, x(999)+"\r\n")
	refused(t, "A\r\n\r\n"+x(999)+"\r\n\r\n", api.ErrForm)
}

// wrongs: headers of short lines that aren't of the form.
func wrongs() []string {
	all := []string{
		" A: b\r\n", "\tA: b\r\n", " \r\n", "\t\r\n", " b\r\nA: c\r\n", "\tb\r\nA: c\r\n", " :\r\n", "  \r\n \r\n",
		"A\r\n", "A b\r\n", "A\r\n b\r\n", "A: b\r\nC\r\n", "A\r\nB: c\r\n", "A\r\n:\r\n", "\r \r\n", "\r\r\n", "\n\r\n",
		"A\r\n : b\r\n", "A\r\n\t:b\r\n", "A\r\n b: c\r\n", "A :b\r\n", "A\t: b\r\n", "A b: c\r\n",
		":\r\n", ": b\r\n", ":A: b\r\n", "A: b\r\n: c\r\n", "A: b\r\n:\r\n c\r\n", "A: b\r\n c\r\nD\r\n",
		x(65) + ":\r\n", x(65) + ": b\r\n", x(998) + "\r\n", x(997) + ":\r\n",
		"\x7f:\r\n", "A\x80: b\r\n", "\xff: b\r\n", "\xc3\xa9: b\r\n", "A\x00: b\r\n", "A\r: b\r\n", "A\n: b\r\n", "A\n B: b\r\n", "\nA: b\r\n", "\rA: b\r\n",
		"A: \x00\r\n", "A: b\x00\r\n", "A: \x00b\r\n", "A: b\nc\r\n", "A: b\rc\r\n", "A: b\r\r\n", "A: b\n\r\n", "A: \rb\r\n", "A: \nb\r\n", "A: b\r\n c\x00\r\n", "A: b\r\n \n\r\n", "A: b\n c\r\n", "A: b\r c\r\n", "A: b\nB: c\r\n", "A: b\n\nc\r\n", "A:\r\r\n", "A:\n\r\n",
	}
	for _, s := range slices.Clone(all) {
		// Behind a field, and with one behind its first line, unless it goes on with that, or is ended by it.
		more := "A: b\r\n" + strings.Replace(s, "\r\n", "\r\nX: y\r\n", 1)
		if _, _, e := slowParse(more + "\r\n"); e != api.OK {
			all = append(all, more)
		}
	}
	return all
}

func TestParseOfWrongFields(t *testing.T) {
	all := wrongs()
	if len(all) < 100 {
		t.Error("so few:", len(all))
	}
	for _, s := range all {
		for _, behind := range []string{"", "rest\r\n\r\n", "\r\n", "A: b\r\n\r\n", x(999)} {
			refused(t, s+"\r\n"+behind, api.ErrForm)
		}
		// Ahead of too many.
		refused(t, s+strings.Repeat("A:\r\n", 65)+"\r\n", api.ErrForm)
		refused(t, strings.Repeat("A:\r\n", 65)+"A: b\r\n:\r\n"+s+"\r\n", api.ErrForm)
	}
	refused(t, strings.Repeat("A:\r\n", 64)+"A\r\n\r\n", api.ErrForm)
	refused(t, strings.Repeat("A:\r\n", 70)+"A b: c\r\n\r\n", api.ErrForm)
}

func TestParseOfManyFields(t *testing.T) {
	for _, count := range []int{1, 2, 63, 64} {
		parses(t, strings.Repeat("A: b\r\n", count)+"\r\nrest", slices.Repeat(field("A", "b"), count), "rest")
		parses(t, strings.Repeat("A:b\r\n c\r\n\td\r\n", count)+"\r\n", slices.Repeat(field("A", "b c\td"), count), "")
	}
	for _, count := range []int{65, 66, 128, 1000} {
		refused(t, strings.Repeat("A: b\r\n", count)+"\r\nrest", api.ErrLong)
		refused(t, strings.Repeat("A:b\r\n c\r\n", count)+"\r\n", api.ErrLong)
	}
	// Lines that go on aren't counted.
	parses(t, "A: b\r\n"+strings.Repeat(" c\r\n", 5000)+"\r\n", field("A", "b"+strings.Repeat(" c", 5000)), "")
}

func TestParseOfEachByte(t *testing.T) {
	for c := range 256 {
		b := one(c)
		for _, s := range []string{b, b + "A: b", "A" + b + "B: c", "A" + b + ": c", "A:" + b, "A: " + b + "b", "A: b" + b + "c", "A: b" + b, "A:b\r\n" + b, "A:b\r\n" + b + "c", "A:b\r\n" + b + ":", "A:b\r\n " + b, "A:b\r" + b, "A:b\r\nC" + b + "\nD:"} {
			agrees(t, s+"\r\n\r\n")
			agrees(t, s+"\r\n\r\nrest")
			agrees(t, s+"\r\n"+b+"\r\n\r\n")
			agrees(t, s)
		}
	}
}

func TestParseOfAllShortTexts(t *testing.T) {
	for _, s := range textsOf("A: \r\n", 7) {
		agrees(t, s)
		agrees(t, s+"\r\n\r\n")
	}
	for _, letters := range []string{"A:\t\r\n", "A: \x00\xff", "a:\r\n\t "} {
		for _, s := range textsOf(letters, 6) {
			agrees(t, "A:"+s+"\r\n\r\n")
			agrees(t, s+"\r\n \r\n\r\n:")
		}
	}
}

// TestParseOfAllShortTales: headers of up to five lines, of each kind.
func TestParseOfAllShortTales(t *testing.T) {
	lines := []string{"A: b", "Bc:", " d", "\t", "e", ":", "", "\r", "f :", x(999)}
	for _, tale := range textsOf("0123456789", 5) {
		var s strings.Builder
		for i := range len(tale) {
			s.WriteString(lines[tale[i]-'0'])
			s.WriteString("\r\n")
		}
		agrees(t, s.String())
	}
}

func TestParseOfAnyBytes(t *testing.T) {
	r := rand.New(rand.NewSource(12))
	pieces := []string{"\r\n", "\r\n", "\r\n", "\r\n\r\n", "A: ", "Bc:", ": ", " ", "\t", "x", "yy", "\r", "\n", "\x00", "\xff", x(64), x(500), blanksOf(70)}
	for range 20000 {
		var s strings.Builder
		for range r.Intn(24) {
			if r.Intn(12) == 0 {
				s.WriteString(one(r.Intn(256)))
			} else {
				s.WriteString(pieces[r.Intn(len(pieces)-r.Intn(10))])
			}
		}
		agrees(t, s.String())
		agrees(t, "A:"+s.String()+"\r\n\r\n")
	}
}

func TestFieldsThatWereAnsweredAreApart(t *testing.T) {
	first, _, _ := Parse("A: b\r\nC: d\r\n\r\n")
	second, _, _ := Parse("A: b\r\nC: d\r\n\r\n")
	first[0] = api.Field{Name: "other"}
	if !slices.Equal(second, []api.Field{{Name: "A", Body: "b"}, {Name: "C", Body: "d"}}) {
		t.Error(briefFields(second))
	}
}

// goesThere checks that fields are printed, parsed whatever stands behind, and printed again.
func goesThere(t *testing.T, l []api.Field) {
	t.Helper()
	s, e := Print(l)
	if e != api.OK {
		t.Errorf("%s: %d", briefFields(l), e)
		return
	}
	for _, behind := range behinds() {
		got, rest, e := Parse(s + behind)
		if !slices.Equal(got, l) || rest != behind || e != api.OK {
			t.Errorf("%s: %s, %s %d", brief(s+behind), briefFields(got), brief(rest), e)
		}
		if again, e := Print(got); again != s || e != api.OK {
			t.Errorf("%s: again %s %d", brief(s), brief(again), e)
		}
	}
}

func TestPrintedIsParsed(t *testing.T) {
	goesThere(t, nil)
	goesThere(t, slices.Repeat(field("A", ""), 64))
	goesThere(t, slices.Repeat(field(x(64), x(932)), 64))
	bodies := []string{"", "b", "a b", "a  b", ":", ": :", "a\tb", x(75), x(76), x(995), x(40) + " " + x(34), x(40) + " " + x(35), x(75) + " \t " + x(76), x(75) + " \t " + x(76) + " \t " + x(100), "a" + blanksOf(995) + "b", "a" + blanksOf(73) + "b" + blanksOf(73) + "c", "b " + x(997), "b " + x(997) + " : c", "\x01\xff\xc3\xa9\x7f", "Subject: c", x(78) + " A: b", strings.Repeat(x(70)+" ", 100) + "z", strings.Repeat("\t ", 100) + "z"}
	for _, body := range bodies {
		if slowBody.MatchString(body) {
			goesThere(t, field("A", body))
			goesThere(t, field("~!", body[:min(len(body), 990)]+"x"))
			goesThere(t, []api.Field{{Name: "A", Body: body}, {Name: "B"}, {Name: "a", Body: body}})
		}
	}
	for c := range 256 {
		for _, f := range []api.Field{{Name: one(c), Body: "b"}, {Name: "A", Body: one(c)}, {Name: "A", Body: "b" + one(c) + "c"}, {Name: "A", Body: x(75) + " " + one(c) + " " + x(80)}} {
			if slowRight(f) {
				goesThere(t, []api.Field{f})
			}
		}
	}
}

func TestAnyPrintedIsParsed(t *testing.T) {
	r := rand.New(rand.NewSource(13))
	printed := 0
	for range 1500 {
		l := make([]api.Field, r.Intn(8))
		for i := range l {
			l[i] = anyField(r)
		}
		if _, e := slowPrint(l); e == api.OK {
			printed++
			goesThere(t, l)
		}
	}
	if printed < 1000 {
		t.Error("so few were printed:", printed)
	}
}

// TestParsedIsPrinted: whatever was parsed is right, so is printed, unless it is long, and tells the same then.
func TestParsedIsPrinted(t *testing.T) {
	for s := range texts() {
		l, _, e := Parse(s)
		if e != api.OK {
			t.Errorf("%s: %d", brief(s), e)
		}
		printed, e := Print(l)
		if want, w := slowPrint(l); printed != want || e != w || e == api.ErrForm {
			t.Errorf("%s: %s %d", brief(s), brief(printed), e)
		}
		if e == api.OK {
			goesThere(t, l)
		}
	}
}
