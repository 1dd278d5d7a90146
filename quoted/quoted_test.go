package quoted

import (
	"fmt"
	"regexp"
	"strings"
	"testing"

	"mailguard/api"
)

// stand: the bytes that stand as themselves wherever they are, one by one.
const stand = "!\"#$%&'()*+,-./0123456789:;<>?@ABCDEFGHIJKLMNOPQRSTUVWXYZ[\\]^_`abcdefghijklmnopqrstuvwxyz{|}~"

// slowSign makes a sign in another way than the program.
func slowSign(c byte, last bool) string {
	if strings.IndexByte(stand, c) >= 0 || !last && strings.IndexByte(" \t", c) >= 0 {
		return string([]byte{c})
	}
	return fmt.Sprintf("=%02X", c)
}

// slowly tells a text in another way than the program: told lines are kept whole, as lists.
func slowly(s string) string {
	var all []string
	for _, line := range strings.Split(s, "\r\n") {
		told := []string{""}
		for i := range len(line) {
			sign, now := slowSign(line[i], i+1 == len(line)), len(told)-1
			if len(told[now]+sign) < 76 {
				told[now] += sign
			} else {
				told = append(told, sign)
			}
		}
		all = append(all, strings.Join(told, "=\r\n"))
	}
	return strings.Join(all, "\r\n")
}

// shape: of a told line.
var shape = regexp.MustCompile(`^(?:[!-<>-~ \t]|=[0-9A-F]{2})*=?$`)

// isWell checks what holds of every telling: its bytes, its lines' lengths and ends.
func isWell(t *testing.T, told string) {
	t.Helper()
	lines := strings.Split(told, "\r\n")
	for i, line := range lines {
		if len(line) > 76 || !shape.MatchString(line) || strings.HasSuffix(line, " ") || strings.HasSuffix(line, "\t") {
			t.Errorf("line %d of %q", i, told)
		}
	}
	if strings.HasSuffix(lines[len(lines)-1], "=") {
		t.Errorf("broken off: %q", told)
	}
}

// isTold checks that s is told so, and that it is read from that.
func isTold(t *testing.T, s, told string) {
	t.Helper()
	if got := Encode(s); got != told {
		t.Errorf("%q: %q, not %q", s, got, told)
	}
	if got, e := Decode(told); got != s || e != api.OK {
		t.Errorf("%q: %q %v, not %q", told, got, e, s)
	}
	isWell(t, told)
}

func isNotTold(t *testing.T, told string) {
	t.Helper()
	if got, e := Decode(told); got != "" || e != api.ErrForm {
		t.Errorf("%q: %q %v", told, got, e)
	}
}

func x(count int) string { return strings.Repeat("x", count) }

// allBytes: from 0 to 255, each as a text of one byte.
func allBytes() []string {
	var all []string
	for c := range 256 {
		all = append(all, string([]byte{byte(c)}))
	}
	return all
}

func TestSign(t *testing.T) {
	for c := range 256 {
		for _, last := range []bool{false, true} {
			if got, want := Sign(byte(c), last), slowSign(byte(c), last); got != want {
				t.Errorf("%d %v: %q, not %q", c, last, got, want)
			}
		}
	}
	for i, p := range []struct {
		c    byte
		last bool
		sign string
	}{
		{0, false, "=00"}, {0, true, "=00"}, {8, false, "=08"}, {11, false, "=0B"}, {31, false, "=1F"},
		{'\t', false, "\t"}, {'\t', true, "=09"}, {' ', false, " "}, {' ', true, "=20"},
		{'\r', false, "=0D"}, {'\r', true, "=0D"}, {'\n', false, "=0A"}, {'\n', true, "=0A"},
		{33, false, "!"}, {33, true, "!"}, {60, true, "<"}, {'=', false, "=3D"}, {'=', true, "=3D"}, {62, true, ">"},
		{126, false, "~"}, {126, true, "~"}, {127, false, "=7F"}, {127, true, "=7F"}, {128, false, "=80"}, {160, false, "=A0"}, {255, false, "=FF"}, {255, true, "=FF"},
	} {
		if got := Sign(p.c, p.last); got != p.sign {
			t.Errorf("%d: %q, not %q", i, got, p.sign)
		}
	}
}

// tellings: of texts.
func tellings() map[string]string {
	return map[string]string{
		"":              "",
		"a":             "a",
		"hello":         "hello",
		"hello, world.": "hello, world.",
		"a=b\r\nc ":     "a=3Db\r\nc=20",
		"\xc3\xa9":      "=C3=A9",
		"\x00\x7f\xff":  "=00=7F=FF",
		stand:           stand[:75] + "=\r\n" + stand[75:],
		// = itself.
		"=":       "=3D",
		"==":      "=3D=3D",
		"=3D":     "=3D3D",
		"=20":     "=3D20",
		"=\r\n":   "=3D\r\n",
		"=\r\n=":  "=3D\r\n=3D",
		"a=\r\nb": "a=3D\r\nb",
		// Blanks and tabs, at a line's end and within it.
		" ":                  "=20",
		"\t":                 "=09",
		"  ":                 " =20",
		"\t\t":               "\t=09",
		" \t":                " =09",
		"\t ":                "\t=20",
		" a":                 " a",
		"\ta":                "\ta",
		"a b\tc":             "a b\tc",
		"a ":                 "a=20",
		"a\t":                "a=09",
		"a  \t ":             "a  \t=20",
		" \r\n":              "=20\r\n",
		"\t\r\n":             "=09\r\n",
		"a \r\nb\t\r\nc":     "a=20\r\nb=09\r\nc",
		"\r\n ":              "\r\n=20",
		"\r\n \r\n":          "\r\n=20\r\n",
		"\r\n a":             "\r\n a",
		"a \r\n\t\r\n b \t ": "a=20\r\n=09\r\n b \t=20",
		" \r":                " =0D",
		" \n":                " =0A",
		"\t\nx":              "\t=0Ax",
		// Ends.
		"\r\n":             "\r\n",
		"\r\n\r\n":         "\r\n\r\n",
		"\r\na":            "\r\na",
		"a\r\n":            "a\r\n",
		"a\r\nb":           "a\r\nb",
		"a\r\n\r\nb\r\n":   "a\r\n\r\nb\r\n",
		"\r\n\r\na\r\n":    "\r\n\r\na\r\n",
		"\r\n\xff\r\n\r\n": "\r\n=FF\r\n\r\n",
		// One of an end's two bytes alone.
		"\r":           "=0D",
		"\n":           "=0A",
		"\n\r":         "=0A=0D",
		"a\rb\nc":      "a=0Db=0Ac",
		"\r\r":         "=0D=0D",
		"\n\n":         "=0A=0A",
		"\r\r\n":       "=0D\r\n",
		"\r\n\n":       "\r\n=0A",
		"\r\n\r":       "\r\n=0D",
		"\n\r\n":       "=0A\r\n",
		"\r\n\r\r\n\n": "\r\n=0D\r\n=0A",
		"\r\r\n\n":     "=0D\r\n=0A",
		"\r \n":        "=0D =0A",
	}
}

// longTellings: of texts whose lines are about as long as may be.
func longTellings() map[string]string {
	return map[string]string{
		x(74):                   x(74),
		x(75):                   x(75),
		x(76):                   x(75) + "=\r\nx",
		x(77):                   x(75) + "=\r\nxx",
		x(150):                  x(75) + "=\r\n" + x(75),
		x(151):                  x(75) + "=\r\n" + x(75) + "=\r\nx",
		x(75) + "\r\n":          x(75) + "\r\n",
		x(76) + "\r\n":          x(75) + "=\r\nx\r\n",
		x(75) + "\r\n" + x(75):  x(75) + "\r\n" + x(75),
		"\r\n" + x(76):          "\r\n" + x(75) + "=\r\nx",
		x(50) + "\r\n" + x(50):  x(50) + "\r\n" + x(50),
		x(71) + "=":             x(71) + "=3D",
		x(72) + "=":             x(72) + "=3D",
		x(73) + "=":             x(73) + "=\r\n=3D",
		x(74) + "=":             x(74) + "=\r\n=3D",
		x(75) + "=":             x(75) + "=\r\n=3D",
		x(72) + "\xe9x":         x(72) + "=E9=\r\nx",
		x(73) + "\xe9x":         x(73) + "=\r\n=E9x",
		x(73) + "=" + x(72):     x(73) + "=\r\n=3D" + x(72),
		x(73) + "=" + x(73):     x(73) + "=\r\n=3D" + x(72) + "=\r\nx",
		x(72) + " ":             x(72) + "=20",
		x(73) + " ":             x(73) + "=\r\n=20",
		x(74) + " ":             x(74) + "=\r\n=20",
		x(75) + " ":             x(75) + "=\r\n=20",
		x(74) + "\t\r\n":        x(74) + "=\r\n=09\r\n",
		x(74) + " y":            x(74) + " =\r\ny",
		x(74) + "\ty":           x(74) + "\t=\r\ny",
		x(75) + " y":            x(75) + "=\r\n y",
		x(73) + "  ":            x(73) + " =\r\n=20",
		x(75) + "\r":            x(75) + "=\r\n=0D",
		x(75) + "\n":            x(75) + "=\r\n=0A",
		x(75) + "\r\r\n":        x(75) + "=\r\n=0D\r\n",
		x(74) + "\r\n ":         x(74) + "\r\n=20",
		strings.Repeat("=", 25): strings.Repeat("=3D", 25),
		strings.Repeat("=", 26): strings.Repeat("=3D", 25) + "=\r\n=3D",
		strings.Repeat(" ", 73): strings.Repeat(" ", 72) + "=20",
		strings.Repeat(" ", 76): strings.Repeat(" ", 75) + "=\r\n=20",
		strings.Repeat(" ", 77): strings.Repeat(" ", 75) + "=\r\n =20",
	}
}

func TestTellings(t *testing.T) {
	for s, told := range tellings() {
		isTold(t, s, told)
	}
	for s, told := range longTellings() {
		isTold(t, s, told)
	}
}

// wrongTellings: of no text.
func wrongTellings() []string {
	return []string{
		// Digits in small letters, or none.
		"=3d", "=e9", "=eF", "=Fe", "=c3=a9", "=0d", "=0a", "=GG", "=3G", "=G3", "=:0", "=0:", "=@0", "=/0", "= 3", "=3 ", "=\x00\x00", "=\xff\xff", "=-1", "=+1", "=0x", "=x0",
		// One digit, or none.
		"=", "=3", "=F", "a=", "a=3", "=3D=", "=3D=3", "==", "===", "==3D", "=3=3D", "=3\r\nD", "=\rD", "=\n", "=\r", "=\nx", "=\rx", "=3\n", "=\n\r", "= \r\n", "=\t\r\nx",
		// What would stand as itself.
		"=41", "=61", "=21", "=7E", "=3C", "=3E", "=30", "a=62c", "=3D=41", "=20a", "=09a", "a=20b", "=20=20", "=09=09", "=20=0D", "=20=\r\nx", "=0D=41", x(75) + "=\r\n=41",
		// Ends told by digits.
		"=0D=0A", "a=0D=0Ab", "=0D\r\n=0D=0A", "=0D=0A\r\n", x(72) + "=0D=\r\n=0A", "=0D=\r\n=0A",
		// What doesn't stand as itself.
		"\r", "\n", "a\rb", "a\nb", "\r\r\n", "\n\r\n", "\r\n\n", "\r\n\r", "a\r", "\x00", "\x1f", "\x7f", "\x80", "\xe9", "\xff", "a\x0bb", "\u00e9",
		// Blanks and tabs at a line's end.
		" ", "\t", "a ", "a\t", "a \r\n", "a\t\r\nb", "\r\n ", "\t\r\n", "a  ", "  \r\n", "a b \r\nc", x(75) + "=\r\n ", x(74) + " ", x(75) + "=\r\nx ",
		// Lines that are too long.
		x(76), x(77), x(100), x(76) + "\r\n", "\r\n" + x(76), x(76) + "=\r\nx", x(73) + "=3D", x(74) + "=3D", x(75) + "=3D", x(74) + "=20", x(75) + "=\r\n" + x(76), x(76) + "=\r\n", x(73) + "=3D=\r\nx",
		// Breaks that weren't needed.
		"=\r\n", "=\r\n=\r\n", "a=\r\nb", "=\r\na", "a=\r\n", x(74) + "=\r\nx", x(74) + "=\r\nxx", x(72) + "=\r\n=3D", x(71) + "=\r\n=3Dx", x(75) + "=\r\nx=\r\ny", x(75) + "=\r\n" + x(74) + "=\r\nx",
		x(75) + "=\r\n=\r\nx", "a=\r\n\r\nb", "\r\n=\r\n", "=\r\n\r\n", "a =\r\nb", "=20=\r\n", " =\r\n", " =\r\n\r\n", x(75) + "=\r\n\r\n", x(75) + "=\r\n\r\nx", x(73) + " =\r\nx",
		// At the very end.
		x(75) + "=", x(75) + "=\r", x(75) + "=\r\n", x(75) + "=\n", x(75) + "=\r\nx=", x(75) + "=\r\nx=\r\n", "x\r\n=", "x\r\n=\r\n", x(72) + "=3D=\r\n",
		// Breaks by halves.
		x(75) + "=\nx", x(75) + "=\rx", x(75) + "\r\n=x", x(75) + "= \r\nx", x(75) + "=\r\r\nx", x(75) + "==\r\nx",
	}
}

func TestWrongTellings(t *testing.T) {
	for _, told := range wrongTellings() {
		isNotTold(t, told)
		// No better for lines ahead of them and behind (an empty one first: a text may go on behind a break).
		isNotTold(t, "good\r\n"+told)
		isNotTold(t, told+"\r\n\r\ngood")
	}
}

func TestEachByteInEachPlace(t *testing.T) {
	for _, c := range allBytes() {
		for _, s := range []string{c, c + "a", "a" + c, "a" + c + "b", c + c, c + "\r\n", "\r\n" + c, c + "\r\na", c + "a\r\n", "a" + c + "\r\n" + c + "b", c + " ", " " + c, c + "\t", x(74) + c, x(75) + c, x(74) + c + "y", x(72) + c + "y", x(73) + c + "\r\n"} {
			isTold(t, s, slowly(s))
		}
	}
	all := strings.Join(allBytes(), "")
	isTold(t, all, slowly(all))
	isTold(t, strings.Repeat(all, 9), slowly(strings.Repeat(all, 9)))
}

func TestTextsOfTwoBytes(t *testing.T) {
	for _, first := range allBytes() {
		for _, second := range allBytes() {
			isTold(t, first+second, slowly(first+second))
		}
	}
}

func TestAnyTwoBytesBehindTheMark(t *testing.T) {
	signs := map[string]string{}
	for _, c := range allBytes() {
		signs[slowly(c)] = c
	}
	for _, first := range allBytes() {
		for _, second := range allBytes() {
			if c, ok := signs["="+first+second]; ok {
				isTold(t, c, "="+first+second)
			} else {
				isNotTold(t, "="+first+second)
			}
		}
	}
}

func TestLinesOfEachLength(t *testing.T) {
	for length := range 240 {
		for _, last := range []string{"", "x", "=", " ", "\t", "\r", " y", "=y", "\xe9", "  ", "\r\n", " \r\n", "=\r\n", "\r\r\n", "\r\nx", " \r\n "} {
			for _, unit := range []string{"x", "=", " ", "x=", "\xc3\xa9", "abcdefgh ", "ab=\t"} {
				s := strings.Repeat(unit, length)[:length] + last
				isTold(t, s, slowly(s))
			}
		}
	}
}

// someBytes answers that many bytes of which many are of those that count.
func someBytes(count, seed int) string {
	const often = "= \t\r\n\r\nx"
	some, state := make([]byte, count), uint32(seed)
	for i := range some {
		state = state*1664525 + 1013904223
		if pick := int(state >> 24); pick < 128 {
			some[i] = often[pick%len(often)]
		} else {
			some[i] = byte(state >> 16)
		}
	}
	return strings.ReplaceAll(string(some), "\rx", "\r\n")
}

func TestLongTexts(t *testing.T) {
	for seed := range 2000 {
		s := someBytes(seed, seed)
		isTold(t, s, slowly(s))
	}
	for _, s := range []string{x(100003), strings.Repeat("\r\n", 50000), strings.Repeat("=", 50000), strings.Repeat(" \r\n", 50000), strings.Repeat("\r", 50000)} {
		isTold(t, s, slowly(s))
	}
}

// each hands every text of at most that many of the units to what is done.
func each(units []string, most int, do func(s string)) {
	var grow func(s string, left int)
	grow = func(s string, left int) {
		do(s)
		for _, unit := range units {
			if left > 0 {
				grow(s+unit, left-1)
			}
		}
	}
	grow("", most)
}

func TestShortTextsAreToldInOneWay(t *testing.T) {
	const most = 6
	texts := map[string]string{}
	each([]string{"\x00", "\x0d", "\xd0", "\xdd", "\n", " ", "0", "D", "a"}, most, func(s string) {
		told := slowly(s)
		if other, ok := texts[told]; ok {
			t.Fatalf("%q and %q are both %q", s, other, told)
		}
		texts[told] = s
	})
	// Of these bytes no telling is made of a text that isn't among those above.
	each([]string{"=", "\r", "\n", " ", "0", "D", "a"}, most, func(told string) {
		if s, ok := texts[told]; ok {
			isTold(t, s, told)
		} else {
			isNotTold(t, told)
		}
	})
}

func TestNoOtherTellingIsRead(t *testing.T) {
	for seed := range 20 {
		s := someBytes(200, seed)
		told := Encode(s)
		for at := range len(told) + 1 {
			for _, piece := range []string{"=\r\n", "\r\n", " ", "=", "x"} {
				isItsOwn(t, told[:at]+piece+told[at:])
			}
			if at < len(told) {
				isItsOwn(t, told[:at]+told[at+1:])
			}
		}
	}
}

// isItsOwn checks that what is read is told again as it stood, whatever it is.
func isItsOwn(t *testing.T, told string) {
	t.Helper()
	s, e := Decode(told)
	if e == api.ErrForm && s == "" {
		return
	}
	if e != api.OK || slowly(s) != told {
		t.Errorf("%q: %q %v", told, s, e)
	}
}
