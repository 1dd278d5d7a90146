package ctype

import (
	"math/rand"
	"strings"
	"testing"

	"mailguard/api"
)

func TestParse(t *testing.T) {
	tells(t, "text/plain", of("text", "plain"))
	tells(t, "text/plain; charset=utf-8", of("text", "plain", "charset", "utf-8"))
	tells(t, "Text/Plain ; charset=\"utf-8\"", of("text", "plain", "charset", "utf-8"))
	tells(t, "multipart/mixed; boundary=\"a b\"", of("multipart", "mixed", "boundary", "a b"))
	tells(t, "a/b;k=v;l=w;m=\"\"", with("k", "v", "l", "w", "m", ""))
	tells(t, "a/b; z=1; a=2; m=3", with("z", "1", "a", "2", "m", "3"))
	tells(t, "-/+;.=!", of("-", "+", ".", "!"))
}

func TestParseOfTokens(t *testing.T) {
	for _, s := range rightTokens() {
		tells(t, s+"/b", of(s, "b"))
		tells(t, "a/"+s, of("a", s))
		tells(t, s+"/"+s+";"+s+"="+s, of(s, s, s, s))
		tells(t, "a/b; "+s+"=v", with(s, "v"))
		tells(t, "a/b; k=v; "+s+"=\"v\"", with("k", "v", s, "v"))
		tells(t, "a/b; k="+s, with("k", s))
		tells(t, "a/b; k="+s+"; l=\""+s+"\"; m="+s, with("k", s, "l", s, "m", s))
	}
	for i := range len(tokenBytes) {
		c := tokenBytes[i : i+1]
		tells(t, c+"/"+c+"; "+c+"="+c, of(c, c, c, c))
		tells(t, "x"+c+"/"+c+"x; "+c+c+"=x"+c, of("x"+c, c+"x", c+c, "x"+c))
	}
}

// TestParseOfCapitals: in Main, Sub and Names each letter may be one, in Values each stays.
func TestParseOfCapitals(t *testing.T) {
	for s, low := range map[string]string{"A": "a", "Z": "z", "TEXT": "text", "Text": "text", "texT": "text", "tExT": "text", "X-Y.Z+1": "x-y.z+1", "ABCDEFGHIJKLMNOPQRSTUVWXYZ": "abcdefghijklmnopqrstuvwxyz", strings.Repeat("X", 64): x(64), x(63) + "X": x(64), "!#$&-^_.+0A": "!#$&-^_.+0a"} {
		tells(t, s+"/b", of(low, "b"))
		tells(t, "a/"+s, of("a", low))
		tells(t, "a/b;"+s+"=v", with(low, "v"))
		tells(t, "a/b; k=v; "+s+"=\"v\"", with("k", "v", low, "v"))
		tells(t, s+"/"+s+"; "+s+"=\""+s+"\"", of(low, low, low, s))
		refused(t, "a/b; k="+s)
		refused(t, s+"/"+s+"; "+s+"="+s)
		// Two of one Name, but for their letters.
		refused(t, "a/b; "+s+"=v; "+low+"=v")
		refused(t, "a/b; "+low+"=v; "+s+"=w")
		refused(t, "a/b; "+s+"=v; k=v; "+s+"=v")
	}
	for c := 'A'; c <= 'Z'; c++ {
		big, low := string(c), string(c+32)
		tells(t, big+"/b", of(low, "b"))
		tells(t, "a/"+big, of("a", low))
		tells(t, "a/b;"+big+"=\""+big+"\"", with(low, big))
		refused(t, "a/b;k="+big)
	}
}

// gaps: what may stand where blanks and tabs may.
func gaps() []string {
	return []string{"", " ", "\t", "  ", "\t\t", " \t", "\t ", " \t \t ", strings.Repeat(" ", 100), strings.Repeat("\t", 3000)}
}

func TestParseOfGaps(t *testing.T) {
	for _, g := range gaps() {
		tells(t, g+"a/b", of("a", "b"))
		tells(t, "a/b"+g, of("a", "b"))
		for _, h := range gaps() {
			tells(t, g+"a/b"+h, of("a", "b"))
			tells(t, "a/b"+g+";"+h+"k=v", with("k", "v"))
			tells(t, "a/b"+g+";"+h+"k=\"v\"", with("k", "v"))
			tells(t, "a/b;k=v"+g+";"+h+"l=w", with("k", "v", "l", "w"))
			tells(t, "a/b;k=\" v \""+g+";"+h+"l=\" \"", with("k", " v ", "l", " "))
			tells(t, g+"a/b"+h+";"+g+"k=v"+h+";"+g+"l=\"w\""+h, with("k", "v", "l", "w"))
			tells(t, g+"a/b;k=\"\""+h, with("k", ""))
		}
	}
	// Within quotes they are the Value's.
	tells(t, "a/b;k=\" v  w \"", with("k", " v  w "))
	tells(t, "a/b;k=\" ; \" ;l=\";\"", with("k", " ; ", "l", ";"))
}

func TestParseOfValues(t *testing.T) {
	for _, value := range rightValues() {
		tells(t, "a/b; k="+quoted(value), with("k", value))
		tells(t, "a/b; k="+quoted(value)+"; l="+quoted(value)+" ;m=v", with("k", value, "l", value, "m", "v"))
		// A backslash ahead of each byte.
		all := ""
		for i := range len(value) {
			all += `\` + value[i:i+1]
		}
		tells(t, "a/b; k=\""+all+"\"", with("k", value))
		tells(t, "a/b; k=\""+all+"\";l=\""+all+"\"", with("k", value, "l", value))
	}
	for said, value := range map[string]string{
		// Where it needs none.
		`v`: "v", `utf-8`: "utf-8", x(64): x(64), x(70): x(70),
		`\v`: "v", `\v\w`: "vw", `v\w`: "vw", `\"`: `"`, `\\`: `\`, `\\\"`: `\"`, `\"\\`: `"\`, `\\\\`: `\\`, `\"\"`: `""`, `a\"b`: `a"b`, `a\\b`: `a\b`, `\ `: " ", `\;`: ";", `\n`: "n", `\0`: "0", `;`: ";", `; l=w`: "; l=w", `=`: "=", `/`: "/", `a/b; k=v`: "a/b; k=v", `'`: "'", `(x)`: "(x)", `~`: "~", `\~`: "~",
	} {
		tells(t, `a/b; k="`+said+`"`, with("k", value))
		tells(t, `a/b; k="`+said+`" ; l=w`, with("k", value, "l", "w"))
		tells(t, `a/b; l=w; k="`+said+`"`+"\t", with("l", "w", "k", value))
	}
	for i := range len(printable) {
		c := printable[i : i+1]
		tells(t, `a/b; k="\`+c+`"`, with("k", c))
		tells(t, `a/b; k="v\`+c+`w"`, with("k", "v"+c+"w"))
		if c != `"` && c != `\` {
			tells(t, `a/b; k="`+c+`"`, with("k", c))
			tells(t, `a/b; k="v`+c+c+`w"`, with("k", "v"+c+c+"w"))
		}
	}
}

// TestParseOfEachByte: as itself and behind a backslash, between quotes and not.
func TestParseOfEachByte(t *testing.T) {
	for c := range 256 {
		b := one(c)
		for _, s := range []string{b, "k" + b, b + "k", "k" + b + "l", x(63) + b, x(64) + b, x(70) + b, x(69) + b, b + b, "\\" + b, "\"" + b + "\"", "\"\\" + b + "\"", "\"" + x(69) + "\\" + b + "\"", "\"" + x(70) + "\\" + b + "\"", "\"v\"" + b, b + "\"v\"", "\"v" + b, "\"\\" + b} {
			for _, whole := range []string{s, s + "/b", "a/" + s, "a/b" + s, "a" + s + "/b", "a/b;" + s, "a/b;" + s + "=v", "a/b; k=" + s, "a/b; k" + s + "v", "a/b;k=v" + s + "l=w", "a/b;k=" + s + ";l=w"} {
				agrees(t, whole)
			}
		}
		if c < 32 || c > 126 {
			for _, s := range []string{b, `\` + b, "v" + b, b + "v", `v\` + b + "w", `\\` + b, x(69) + b, `\` + b + x(69), x(70) + b} {
				refused(t, `a/b; k="`+s+`"`)
				refused(t, `a/b; k="`+s+`"; l=w`)
				refused(t, `a/b; l=w; k="`+s+`"`)
			}
		}
	}
}

func TestParseOfManyParams(t *testing.T) {
	for count := range 20 {
		s := "a/b"
		for _, p := range many(count, "v").Params {
			s += "; " + p.Name + "=v"
		}
		if count > 8 {
			refused(t, s)
			refused(t, s+";")
			continue
		}
		tells(t, s, many(count, "v"))
		tells(t, strings.ReplaceAll(s, "v", `"\v"`), many(count, "v"))
		tells(t, strings.ReplaceAll(s, "; ", " ;"), many(count, "v"))
		refused(t, s+"; n=")
		if count > 0 {
			refused(t, s+"; n0=w")
		}
	}
	refused(t, "a/b"+strings.Repeat(";k=v", 9))
	refused(t, "a/b"+strings.Repeat(";k=v", 5000))
	// A ; between quotes begins none.
	tells(t, "a/b; k=\""+strings.Repeat(";l=w", 17)+"\"", with("k", strings.Repeat(";l=w", 17)))
}

// wrongs: texts that tell nothing.
func wrongs() []string {
	all := []string{
		"", " ", "\t", " \t ", "text", "text ", "a b", "a;k=v", ";k=v", ";", "=", "k=v", "\"", "\"a/b\"",
		// Without /, with two, or with nothing beside it.
		"/", "/b", "a/", "a", " /b", "a/ ", "//", "a//b", "a/b/", "/a/b", "a/b/c", "a/b/c; k=v", "a//", "//b", "/; k=v", "a/; k=v", "/b; k=v", "a/;", "a/b; k=v/w", "a/b; k/l=v", "a/b; /k=v", "a/b; k=/", "a\\b",
		// A ; at the end, at the start, or two in a row.
		"a/b;", "a/b; ", "a/b ;\t", "a/b;;", "a/b; ;", "a/b;;k=v", "a/b; ;k=v", "a/b;\t; k=v", "a/b;k=v;", "a/b; k=v; ", "a/b;k=\"v\";", "a/b;k=v;;", "a/b;k=v;;l=w", "a/b;k=v; ;l=w", ";a/b", "; a/b", ";a/b;k=v", "a;/b", "a/;b",
		// Blanks around / or =, or within a token.
		"a /b", "a/ b", "a / b", "a\t/b", "a/\tb", "a /b; k=v", "a/b; k =v", "a/b; k= v", "a/b; k = v", "a/b; k\t=v", "a/b; k=\tv", "a/b; k= \"v\"", "a/b; k =\"v\"", "a/b; k=\t\"v\"", "a a/b", "a/b b", "a/b b; k=v", "a/b; k l=v", "a/b; k=v w", "a/b; k=\"v\" w", "a/b; k=v \"w\"", "a/b k=v", "a/b\tk=v", "a/b; k=v l=w", "a/b; k=v\tl=w", "a/b; k=\"v\" l=w", "a/b; k=\"v\"l=w", "a\r\n/b", "a/b\r\n", "\r\na/b", "a/b;\r\n k=v", "a/b; k=v\r\n", "a/b; k=v\n", "a/b\n; k=v", "a/b\x0b; k=v", "a/b\xa0; k=v", "a/b\xc2\xa0; k=v",
		// Without =, a Name or a Value.
		"a/b; k", "a/b; k ", "a/b; k; l=w", "a/b; k=v; l", "a/b; kv", "a/b; k:v", "a/b; \"v\"", "a/b; k\"v\"", "a/b; =v", "a/b; =", "a/b; =\"v\"", "a/b; =\"\"", "a/b;=v", "a/b; k=", "a/b; k= ", "a/b; k=\t", "a/b; k=; l=w", "a/b; k= ;l=w", "a/b; k=v; l=", "a/b; k==v", "a/b; k==", "a/b; k=v=w", "a/b; k==\"v\"", "a/b; k=l=\"v\"", "a/b; k=\"v\"=w",
		// Of other bytes than a token's, without quotes.
		"a/b; k=V", "a/b; k=vW", "a/b; k=Vw", "a/b; k=v/w", "a/b; k=v*", "a/b; k=v'w'", "a/b; k='v'", "a/b; k=v%20", "a/b; k=(v)", "a/b; k=v(x)", "a/b; k=v@w", "a/b; k=v,w", "a/b; k=v:w", "a/b; k=<v>", "a/b; k=[v]", "a/b; k=v?", "a/b; k=v|", "a/b; k={v}", "a/b; k=~", "a/b; k=`", "a/b; k=\\v", "a/b; k=v\\", "a/b; k=\\", "a/b; k=\\\"v\\\"", "a/b; k=v\x00", "a/b; k=\x7f", "a/b; k=\xff", "a/b; k=caf\xc3\xa9", "a/b; k=" + x(65), "a/b; k=" + x(70), "a/b; k=" + x(71), "a/b; k=" + x(65) + "; l=w", "a/b; k=" + strings.Repeat("X", 64), "a/b; k=" + x(5000),
		// Quotes that aren't ended, or with more behind.
		"a/b; k=\"", "a/b; k=\"v", "a/b; k=\"v ", "a/b; k=\"v;", "a/b; k=\"v; l=w", "a/b; k=\"v\\\"", "a/b; k=\"v\\\"; l=w", "a/b; k=\"\\\"", "a/b; k=\"\\\\\\\"", "a/b; k=\"v\"; l=\"w", "a/b; k=\"v; l=\"w\"", "a/b; k=v\"", "a/b; k=\"" + x(70), "a/b; k=v; l=\"",
		"a/b; k=\"v\"w", "a/b; k=\"v\"\"", "a/b; k=\"v\"\"w\"", "a/b; k=\"\"\"\"", "a/b; k=\"\"\"", "a/b; k=\"\"v", "a/b; k=\"v\"\\", "a/b; k=\"v\"/", "a/b; k=\"v\".", "a/b; k=\"v\",", "a/b; k=\"v\"(x)", "a/b; k=\"v\" (x)", "a/b; k=\"v\" \"w\"", "a/b; k=v\"w\"", "a/b; k=\"v\"w; l=u", "a/b; k=\"v\"\r\n", "a/b; k=\"v\"\x00",
		// A backslash at the end.
		"\\", "a/b\\", "a\\/b", "a/b;\\", "a/b; k\\", "a/b; k=\"\\", "a/b; k=\"v\\", "a/b; k=\"\\\\\\", "a/b; k=\"v\\\\", "a/b; k=\"v\"; l=\"\\",
		// Comments, and Names between quotes.
		"(x)a/b", "a/b(x)", "a/b (x)", "(x) a/b", "a(x)/b", "a/(x)b", "a/b; (x)k=v", "a/b; k=v (x)", "a/b; k(x)=v", "\"a\"/b", "a/\"b\"", "a/b; \"k\"=v", "a/b; \"k\"=\"v\"", "\"a/b\"; k=v", "a*/b", "*/*", "a/*", "a/b; k*=v", "a/b; k*0=v", "a/b, c/d", "a/b,", "a/b; k=v, l=w", "<a/b>", "a/b: k=v",
		// Two of one Name.
		"a/b; k=v; k=v", "a/b; k=v; k=w", "a/b; k=v; K=v", "a/b; K=v; k=v", "a/b; K=v; K=v", "a/b; k=v; l=w; k=v", "a/b; k=\"v\"; k=v", "a/b; k=\"\"; K=\"\"", "a/b; kL=v; Kl=v",
	}
	for _, s := range wrongTokens() {
		// Within a token, so that a gap or a ; at its ends isn't one where it may be.
		if s != "" && !strings.ContainsAny(s, "ABCDEFGHIJKLMNOPQRSTUVWXYZ") {
			all = append(all, "x"+s+"x/b", "a/x"+s+"x", "a/b; x"+s+"x=v", "a/b; k=v; x"+s+"x=\"v\"", "a/b;k=x"+s+"x")
		}
	}
	for _, s := range wrongValues() {
		all = append(all, "a/b; k="+quoted(s), "a/b; k="+quoted(s)+"; l=w", "a/b; l=w; k="+quoted(s))
	}
	for _, s := range []string{x(65), x(66), x(1000), strings.Repeat("X", 65), strings.Repeat("-", 65)} {
		all = append(all, s+"/b", "a/"+s, "a/b; "+s+"=v", "a/b; k=v; "+s+"=\"v\"", s+"/"+s, s, "a/b; "+s)
	}
	return all
}

func TestParseOfWrongTexts(t *testing.T) {
	for _, s := range wrongs() {
		refused(t, s)
	}
}

// TestParseOfLongTexts: they have no bound of their own, but what they tell has.
func TestParseOfLongTexts(t *testing.T) {
	for _, count := range []int{1000, 16384, 16385, 100000} {
		gap := strings.Repeat(" ", count)
		tells(t, gap+"a/b"+gap+";"+gap+"k=\"v\""+gap, with("k", "v"))
		refused(t, gap)
		for _, c := range []string{"x", "/", ";", "\"", "\\", "=", "a/b;", ";k=v", "\x00", "\xff", "X"} {
			s := strings.Repeat(c, count)
			refused(t, s)
			refused(t, s+"/b")
			refused(t, "a/"+s)
			refused(t, "a/b; "+s)
			refused(t, "a/b; k="+s)
			refused(t, "a/b; k=\""+s+"\"")
			refused(t, "a/b; k=\""+s)
			refused(t, "a/b; k=v"+s)
		}
	}
}

// TestParseOfAllShortTexts: also as a piece of a longer text, wherever that may have something else.
func TestParseOfAllShortTexts(t *testing.T) {
	told := 0
	for _, s := range textsOf("a/;=\" ", 7) {
		if agrees(t, s) {
			told++
		}
	}
	for _, s := range textsOf("aA/;=\"\\ \t(", 4) {
		for _, whole := range []string{s, s + "a/b", "a/b" + s, "a" + s + "b", "a/b;" + s, "a/b;k" + s + "v", "a/b;k=" + s, "a/b;k=v" + s, "a/b;k=\"" + s, "a/b;k=\"" + s + "\"", "a/b;k=v" + s + "l=w", "a/b;k=\"v\"" + s + "l=w"} {
			if agrees(t, whole) {
				told++
			}
		}
	}
	for _, s := range textsOf("a\"\\;=", 6) {
		agrees(t, "a/b;k=\""+s)
		agrees(t, "a/b;k=\""+s+"\"")
		agrees(t, "a/b"+s+";k=\"v\"")
	}
	if told < 3000 {
		t.Error("so few tell a type:", told)
	}
}

func TestParseOfAnyBytes(t *testing.T) {
	r := rand.New(rand.NewSource(31))
	pieces := []string{"\x00", "\xff", "\r\n", "(x)", "\\", "A", x(64), x(65), "a/b/c", "/", "=", "\"", "k=", "a/b", "a/b;", "Text/Plain", "k=v", "K=v", "k=\"v\"", "l=w", "l=\"W\"", "m=\"\\\"\"", "n=\"\"", "v", " ", " ", "\t", "; ", ";", ";", " ;"}
	told := 0
	for range 60000 {
		var s strings.Builder
		if r.Intn(3) > 0 {
			s.WriteString("a/b")
		}
		for range r.Intn(10) {
			if r.Intn(30) == 0 {
				s.WriteString(one(r.Intn(256)))
			} else {
				s.WriteString(pieces[len(pieces)-1-r.Intn(len(pieces)-r.Intn(20))])
			}
		}
		if agrees(t, s.String()) {
			told++
		}
	}
	if told < 3000 {
		t.Error("so few tell a type:", told)
	}
}

// TestParseOfSpoiledTexts: printed types, of which a byte or two are other ones, gone, or new.
func TestParseOfSpoiledTexts(t *testing.T) {
	r := rand.New(rand.NewSource(32))
	letters := "a\"\\ ;=/A\t(\x00\xff"
	told := 0
	for range 30000 {
		s, _ := slowPrint(anyType(r))
		for range 1 + r.Intn(2) {
			i := r.Intn(len(s))
			b := letters[r.Intn(len(letters)):][:1]
			s = []string{s[:i] + b + s[i:], s[:i] + b + s[i+1:], s[:i] + s[i+1:] + "x"}[r.Intn(3)]
		}
		if agrees(t, s) {
			told++
		}
	}
	if told < 3000 {
		t.Error("so few tell a type:", told)
	}
}

func TestAnswersAreApart(t *testing.T) {
	first, _ := Parse("a/b; k=v; l=w")
	second, _ := Parse("a/b; k=v; l=w")
	first.Params[0] = api.Param{Name: "x", Value: "y"}
	first.Params = append(first.Params[:1], api.Param{Name: "z"})
	if !slowSame(second, with("k", "v", "l", "w")) {
		t.Error(briefType(second))
	}
}

// goesThere checks that a type is printed, parsed, and printed again.
func goesThere(t *testing.T, a api.Type) {
	t.Helper()
	s, e := Print(a)
	if e != api.OK {
		t.Errorf("%s: %d", briefType(a), e)
		return
	}
	got, e := Parse(s)
	if !Same(got, a) || !slowSame(got, a) || e != api.OK {
		t.Errorf("%s: %s %d", brief(s), briefType(got), e)
	}
	if again, e := Print(got); again != s || e != api.OK {
		t.Errorf("%s: again %s %d", brief(s), brief(again), e)
	}
}

func TestPrintedIsParsed(t *testing.T) {
	for _, s := range rightTokens() {
		goesThere(t, of(s, "b"))
		goesThere(t, of("a", s))
		goesThere(t, of(s, s, s, s))
	}
	for _, s := range rightValues() {
		goesThere(t, with("k", s))
		goesThere(t, with("k", s, "l", "v", "m", s))
		goesThere(t, many(8, s))
	}
	for _, s := range textsOf("aA \"\\;=", 5) {
		goesThere(t, with("k", s, "l", "w"))
	}
	for i := range len(printable) {
		c := printable[i : i+1]
		for _, s := range []string{c, c + "v", "v" + c, "v" + c + "w", c + c, x(69) + c, c + x(64)} {
			goesThere(t, with("k", s, "l", s))
		}
	}
	for count := range 9 {
		for _, s := range []string{"", "v", x(64), x(65), x(70), strings.Repeat("\"", 70), strings.Repeat("\\", 70), strings.Repeat(" ", 70)} {
			goesThere(t, many(count, s))
		}
	}
	for count := range 71 {
		goesThere(t, with("k", x(count), "l", strings.Repeat("\"", count), "m", strings.Repeat(" ", count)))
	}
}

func TestAnyPrintedIsParsed(t *testing.T) {
	r := rand.New(rand.NewSource(33))
	for range 8000 {
		goesThere(t, anyType(r))
	}
}

// TestParsedIsPrinted: whatever was parsed is right, so is printed, and tells the same then.
func TestParsedIsPrinted(t *testing.T) {
	parsed := 0
	for _, s := range textsOf("aB\"\\ ;=", 5) {
		for _, whole := range []string{"A/b" + s, " a/B;K=" + s + "\t", "a/b ; k=\"" + s + "\""} {
			a, e := Parse(whole)
			if e != api.OK {
				continue
			}
			parsed++
			isRight(t, a, true)
			goesThere(t, a)
		}
	}
	if parsed < 3000 {
		t.Error("so few were parsed:", parsed)
	}
}
