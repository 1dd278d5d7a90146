package addr

import (
	"math/rand"
	"slices"
	"strings"
	"testing"

	"mailguard/api"
)

func TestParse(t *testing.T) {
	tells(t, "a@b", to("a", "b"))
	tells(t, "a.b@c.d,x@y", to("a.b", "c.d"), to("x", "y"))
	tells(t, "a@b, c@d, e@f", to("a", "b"), to("c", "d"), to("e", "f"))
	tells(t, "\"A. B\" <a@b>, c@d (x)", named("A. B"), to("c", "d"))
	tells(t, "Ann <a@b>", named("Ann"))
	tells(t, "Ann<a@b>", named("Ann"))
	tells(t, "Ann B C <a@b>", named("Ann B C"))
	tells(t, "c@d, Ann B <a@b>, e@f, \"x\"<a@b>", to("c", "d"), named("Ann B"), to("e", "f"), named("x"))
	tells(t, "a@b, a@b", to("a", "b"), to("a", "b"))
	tells(t, "a <a@b>, a <a@b>", named("a"), named("a"))
}

func TestParseOfParts(t *testing.T) {
	for _, local := range rightLocals() {
		tells(t, local+"@b", to(local, "b"))
		tells(t, "n <"+local+"@b>", Address{"n", local, "b"})
		tells(t, "c@d,"+local+"@b,c@d", to("c", "d"), to(local, "b"), to("c", "d"))
	}
	for _, domain := range rightDomains() {
		tells(t, "a@"+domain, to("a", domain))
		tells(t, "n <a@"+domain+">", Address{"n", "a", domain})
		tells(t, "c@d,a@"+domain+",c@d", to("c", "d"), to("a", domain), to("c", "d"))
	}
	for _, name := range rightNames() {
		said := `"` + slowMark.ReplaceAllString(name, `\$0`) + `"`
		tells(t, said+"<a@b>", named(name))
		tells(t, "c@d,"+said+" <a@b>,"+said+"\t<a@b>", to("c", "d"), named(name), named(name))
	}
}

// gaps: what may stand where blanks, tabs and comments may.
func gaps() []string {
	return []string{"", " ", "\t", "  ", " \t ", "()", "(x)", " (x) ", "(x)(y)", "()()()", " (x)\t(y) ", "(a@b)", "(,)", "(<)", "(>)", "(n <a@b>)", "(\")", "(\"x\")", "(\\)", "( )", "(\t)", "(\r\n)", "(\x00\xff)", "(x.y)", strings.Repeat(" ", 300), strings.Repeat("(x) ", 300)}
}

func TestParseOfGaps(t *testing.T) {
	for i, g := range gaps() {
		for _, h := range []string{"", " ", g, gaps()[(i+5)%len(gaps())]} {
			tells(t, g+"a@b"+h, to("a", "b"))
			tells(t, "a@b"+g+","+h+"c@d", to("a", "b"), to("c", "d"))
			tells(t, g+"n"+h+"<a@b>", named("n"))
			tells(t, "n<"+g+"a@b"+h+">", named("n"))
			tells(t, "n<a@b>"+g+","+h+"c@d", named("n"), to("c", "d"))
			tells(t, "n<a@b>"+g, named("n"))
			tells(t, h+"\"n\""+g+"<a@b>", named("n"))
			tells(t, "\"n\""+g+"\"m\""+h+"\"o\"<a@b>", named("n m o"))
			tells(t, "n"+g+"\"m\""+h+"o<a@b>", named("n m o"))
			tells(t, g+h+"n"+h+"<"+g+"a@b"+h+">"+g+","+h+"\"m\""+g+"o <a@b>"+h, named("n"), named("m o"))
			if g != "" && h != "" {
				tells(t, "n"+g+"m"+h+"o<a@b>", named("n m o"))
			}
		}
	}
}

func TestParseOfWords(t *testing.T) {
	for s, name := range map[string]string{
		// In a row, quoted and not.
		`a b`: "a b", "a\t b": "a b", `a   b`: "a b", `"a""b"`: "a b", `"a"b`: "a b", `a"b"`: "a b", `a"b"c`: "a b c", `"a"(x)"b"`: "a b", `a(x)b`: "a b", `a()b()`: "a b", `"a b" c`: "a b c", `"a "b`: "a  b", `a" b"`: "a  b", `"A." B "C."`: "A. B C.", `ab`: "ab", `a-b`: "a-b", "`": "`", `"ab"cd`: "ab cd",
		// Two quotes without a byte between.
		`""`: "", `a""b`: "a  b", `a "" b`: "a  b", `a "" "" b`: "a   b", `"a"""b`: "a  b", `"a""""b"`: "a  b", ` "" `: "", `()""()`: "",
		// What else would mean something.
		`"<"`: "<", `">"`: ">", `"a@b"`: "a@b", `","`: ",", `"a, b"`: "a, b", `"("`: "(", `")"`: ")", `"(x)"`: "(x)", `"((" ")"`: "(( )", `"a  b"`: "a  b", `"."`: ".", `"'"`: "'",
		// A backslash ahead of a byte.
		`"\a"`: "a", `"\a\b"`: "ab", `"\""`: `"`, `"\\"`: `\`, `"\\\""`: `\"`, `"\"\\"`: `"\`, `"\"a\""`: `"a"`, `"a\"b"`: `a"b`, `"\\""\\"`: `\ \`, `"\<\>\(\)\,\@"`: "<>(),@", `"a\ b"`: "a b", `"a\  b"`: "a  b", `"\!\~"`: "!~", `"\0"`: "0", `"\n"`: "n",
	} {
		tells(t, s+" <a@b>", named(name))
		tells(t, s+"<a@b>", named(name))
		tells(t, "c@d, "+s+" <a@b> , "+s+"\t<a@b>,c@d", to("c", "d"), named(name), named(name), to("c", "d"))
	}
	tells(t, `"`+x(64)+`"<a@b>`, named(x(64)))
	tells(t, x(64)+"<a@b>", named(x(64)))
	tells(t, x(31)+`    `+x(32)+"<a@b>", named(x(31)+" "+x(32)))
	tells(t, `"`+strings.Repeat(`\x`, 64)+`"<a@b>`, named(x(64)))
	tells(t, strings.Repeat(`x `, 32)+"<a@b>", named(strings.TrimSuffix(strings.Repeat("x ", 32), " ")))
	refused(t, strings.Repeat(`x `, 33)+"<a@b>", api.ErrForm)
	tells(t, "a"+strings.Repeat(`""`, 61)+"b<a@b>", named("a"+strings.Repeat(" ", 62)+"b"))
	refused(t, "a"+strings.Repeat(`""`, 62)+"b<a@b>", api.ErrForm)
}

func TestParseOfEachByteInWords(t *testing.T) {
	for c := range 256 {
		b := one(c)
		inName := c >= 32 && c <= 126
		for s, want := range map[string]bool{
			`"` + b + `"`:        inName && c != ' ' && b != `"` && b != `\`,
			`"A` + b + `B"`:      inName && b != `"`,
			`"\` + b + `"`:       inName && c != ' ',
			`"A\` + b + `B"`:     inName,
			`"A\` + b + `" "B"`:  inName,
			`"A\` + b + b + `B"`: inName && b != `"`,
			b:                    strings.Contains(atomBytes, b),
			"A" + b:              strings.Contains(atomBytes+" \t", b),
			"A" + b + "B":        strings.Contains(atomBytes+" \t", b),
		} {
			if agrees(t, s+"<a@b>") != want || agrees(t, "c@d,"+s+" <a@b>") != want {
				t.Errorf("%s: not %v", brief(s), want)
			}
		}
		if inName && c != ' ' {
			tells(t, `"\`+b+`" <a@b>`, named(b))
			tells(t, `"A\`+b+`B" <a@b>`, named("A"+b+"B"))
		}
	}
}

func TestParseOfEachByteElsewhere(t *testing.T) {
	for c := range 256 {
		b := one(c)
		for _, s := range []string{b, b + "a@b", "a@b" + b, "a" + b + "@b", "a@" + b + "b", "a" + b + "c@b", "a@b" + b + "c", "a@b" + b + "c@d", "a@b" + b + ",c@d", "a@b," + b + "c@d", "n" + b + "<a@b>", "n<" + b + "a@b>", "n<a@b" + b + ">", "n<a@b>" + b, "n<a@b>" + b + "c@d", "n<a@b" + b, "n" + b + "a@b>", "n" + b + "a@b" + b, "(" + b + ")a@b", "(" + b + "a@b", b + b + "a@b", b + "x" + b + "<a@b>", "\"" + b + "<a@b>", "\"n" + b + "<a@b>", "a@b" + b + b} {
			agrees(t, s)
		}
		for s, want := range map[string]bool{
			"(" + b + ")a@b":        b != "(" && b != ")",
			"a@b(x" + b + "y)":      b != "(" && b != ")",
			"a" + b + "c@b":         strings.Contains(atomBytes+".", b),
			"a@b" + b:               strings.Contains(domainBytes+" \t", b),
			b + "a@b":               strings.Contains(atomBytes+" \t", b),
			"a@" + b:                strings.Contains(domainBytes, b),
			"n <a@b> " + b:          strings.Contains(" \t", b),
			"n <a@b> " + b + " c@d": b == ",",
		} {
			if agrees(t, s) != want {
				t.Errorf("%s: not %v", brief(s), want)
			}
		}
	}
}

// wrongs: texts, none of them long, that tell no list of right addresses.
func wrongs() []string {
	all := []string{
		// No address at all, or not a whole one.
		"", " ", "\t", "()", "(a@b)", " (x) ", ",", ",,", " , ", "a", "a.b", "@", "a@", "@b", "a@@b", "a@b@c", "\"", "\"\"", "\"a\"", "\"a@b\"", "\"a\"@b", "\"a\" @b", "n n", ".", "\\", ":",
		// Commas without an address ahead, behind or between.
		",a@b", "a@b,", "a@b,,c@d", "a@b, ,c@d", "a@b,(x),c@d", ", a@b", "a@b, ", "a@b,()", "(),a@b", "n<a@b>,", ",n<a@b>", "a@b,c", "a@b,\"\"", "a,c@d",
		// < without >, and > without <; no word, or no address, or two of them.
		"<a@b>", " <a@b>", "()<a@b>", "a@b,<a@b>", "n <a@b", "n <a@b (x)", "n a@b>", "a@b>", "n >a@b<", "n <<a@b>", "n <a@b>>", "n <<a@b>>", "n <a@b<", "n <>", "n < >", "n <", "n >", "n <\"\">", "n <n>", "n <a@>", "n <@b>", "n <a@b, c@d>", "n <a@b,>", "n <,a@b>", "n <a@b c@d>", "n <n <a@b>>", "n <m a@b>", "<", ">", "<>", "n <a@b, m <c@d>", "n, <a@b>", "n <a@b> <c@d>",
		// More behind it.
		"n <a@b> x", "n <a@b>x", "n <a@b>.", "n <a@b> \"\"", "n <a@b> c@d", "n <a@b>@", "n <a@b>\\", "n <a@b> (", "n <a@b> )", "n <a@b>\r\n", "n <a@b> x, c@d",
		"a@b c@d", "a@b c", "a@b \"c\"", "a@b \"\"", "a@b <c@d>", "a@b n <c@d>", "a@b;c@d", "a@b;", "a@b(x)c", "a@b\"c\"", "a@b!", "a@b_", "a@bC", "a@b:", "a@b\r\n", "\r\na@b", "a@b\n,c@d", "\x00a@b", "a@b\x00",
		// Names that aren't of atoms and quotes.
		"n.m <a@b>", "n. <a@b>", ".n <a@b>", "n@m <a@b>", "n: <a@b>", "n; <a@b>", "[n] <a@b>", "n\\m <a@b>", "\\n <a@b>", "\\\"n\\\" <a@b>", "caf\xc3\xa9 <a@b>", "n\r\n <a@b>", "n\nm <a@b>", "n\x00 <a@b>", "n\x7f <a@b>", "n@ <a@b>", "n a@b <c@d>",
		// Quotes and comments that aren't ended, or stand within one another.
		"\"n <a@b>", "n\" <a@b>", "\"n\"\" <a@b>", "\"n\\\" <a@b>", "\"\\\\\\\" <a@b>", "\"n\\", "\"\\", "\\", "\"n", "a@b, \"n <a@b>", "a@b,\"", "n \"", "n \"m\\",
		"(x a@b", "(", "a@b(", "a@b (x", "n (x <a@b>", "n <(x a@b>", "n <a@b (x>", "n <a@b> (x", "a@b, (c@d", "(x) (a@b", "(((((a@b",
		"((x)) a@b", "(()) a@b", "a@b (())", "(x(y)z) a@b", "a@b((x)", "(() a@b", "a@b (x(y)", "n ((x)) <a@b>", "n <((x)) a@b>", "()(()())a@b", "(\\(x) a@b", "(\\)x) a@b", "(\"(\") a@b", "(\")\" <a@b>",
		"a@b)", ")a@b", "a@b())", "n) <a@b>", "n <a@b)>", "n <)a@b>", ")", "())", "a@b,)c@d",
		// Blanks or comments around @ or within a local part or a domain.
		"a @b", "a@ b", "a @ b", "a\t@b", "a@\tb", "a(x)@b", "a@(x)b", "a()@b", "a@()b", "a. b@c", "a .b@c", "a(x).b@c", "a.(x)b@c", "a@b. c", "a@b .c", "a@b(x).c", "a@b.(x)c", "a b@c", "a(x)b@c", "a@b c", "n <a @b>", "n <a@ b>", "n <a(x)@b>", "n <a b@c>", "n <a. b@c>", "n <a@b .c>", "n <a@b. c>", "n <a@b c>", "n <a\r\n@b>",
	}
	for _, local := range wrongLocals() {
		// Of a wrong local part that begins or ends with a gap but that is wrong.
		if bare := strings.Trim(local, " \t"); bare == local && !strings.ContainsAny(local, "(@") {
			all = append(all, local+"@b", "n <"+local+"@b>", "c@d, "+local+"@b, c@d")
		}
	}
	for _, domain := range wrongDomains() {
		if bare := strings.Trim(domain, " \t"); bare == domain && !strings.ContainsAny(domain, "(@") {
			all = append(all, "a@"+domain, "n <a@"+domain+">", "c@d, a@"+domain+", c@d")
		}
	}
	for _, name := range wrongNames() {
		all = append(all, `"`+slowMark.ReplaceAllString(name, `\$0`)+`" <a@b>`)
	}
	return append(all, x(65)+"<a@b>", x(32)+" "+x(32)+"<a@b>", `"" "" <a@b>`, `a "" <a@b>`, `"" a <a@b>`, `"" "a" <a@b>`, `""""<a@b>`, `" " <a@b>`, `"\ a" <a@b>`, `"a\ " <a@b>`, `"a " <a@b>`, `" a" <a@b>`, `a " " <a@b>`, "\"a\\\x01\" <a@b>", "\"a\\\xff\" <a@b>", "\"a\r\n b\" <a@b>", "\"\t\" <a@b>")
}

func TestParseOfWrongTexts(t *testing.T) {
	for _, s := range wrongs() {
		if len(s) > 8000 {
			continue
		}
		refused(t, s, api.ErrForm)
		refused(t, s+",c@d", api.ErrForm)
		refused(t, "c@d,"+s, api.ErrForm)
		refused(t, "n <c@d> , "+s+" , c@d", api.ErrForm)
		// Ahead of too many.
		refused(t, strings.Repeat("c@d,", 64)+s, api.ErrForm)
		refused(t, strings.Repeat("c@d,", 70)+s+",c@d", api.ErrForm)
		refused(t, s+strings.Repeat(",c@d", 65), api.ErrForm)
	}
}

func TestParseOfManyAddresses(t *testing.T) {
	for _, count := range []int{1, 2, 63, 64} {
		tells(t, strings.TrimSuffix(strings.Repeat("a@b,", count), ","), slices.Repeat([]Address{to("a", "b")}, count)...)
		tells(t, strings.Repeat("n <a@b> , ", count-1)+"n<a@b>", slices.Repeat([]Address{named("n")}, count)...)
	}
	for _, count := range []int{65, 66, 128, 1000, 4096} {
		refused(t, strings.TrimSuffix(strings.Repeat("a@b,", count), ","), api.ErrLong)
	}
	refused(t, strings.Repeat("n <a@b> (x), ", 64)+"\"n\"<a@b>", api.ErrLong)
	// Commas in quotes and comments don't count.
	tells(t, strings.Repeat("(a@b,)", 70)+"\""+strings.Repeat(",", 64)+"\" <a@b>", named(strings.Repeat(",", 64)))
}

// filled answers a text with as many bytes as are asked for, by blanks or by a comment ahead of it.
func filled(s string, count int) []string {
	return []string{strings.Repeat(" ", count-len(s)) + s, s + strings.Repeat("\t", count-len(s)), "(" + x(count-len(s)-2) + ")" + s, strings.Repeat("()", (count-len(s))/2) + strings.Repeat(" ", (count-len(s))%2) + s}
}

func TestParseOfLongTexts(t *testing.T) {
	for _, count := range []int{16383, 16384} {
		for i := range 4 {
			tells(t, filled("a@b", count)[i], to("a", "b"))
			tells(t, filled("n<a@b>,c@d", count)[i], named("n"), to("c", "d"))
			refused(t, filled("a@b,", count)[i], api.ErrForm)
			refused(t, filled(strings.Repeat("a@b,", 64)+"a@b", count)[i], api.ErrLong)
		}
		refused(t, strings.Repeat(" ", count), api.ErrForm)
		refused(t, x(count), api.ErrForm)
		refused(t, x(count-2)+"@b", api.ErrForm)
		refused(t, "a@"+x(count-2), api.ErrForm)
		refused(t, "\""+x(count-7)+"\"<a@b>", api.ErrForm)
		refused(t, strings.Repeat("x ", count/2), api.ErrForm)
		refused(t, strings.Repeat("\"", count), api.ErrForm)
		refused(t, strings.Repeat("(", count), api.ErrForm)
		refused(t, strings.Repeat("\\", count), api.ErrForm)
		refused(t, strings.Repeat(",", count), api.ErrForm)
		refused(t, strings.Repeat("<", count), api.ErrForm)
	}
	for _, count := range []int{16385, 16386, 20000, 100000} {
		for i := range 4 {
			// Long goes ahead of all that it may tell.
			refused(t, filled("a@b", count)[i], api.ErrLong)
			refused(t, filled("a@b,", count)[i], api.ErrLong)
			refused(t, filled(strings.Repeat("a@b,", 64)+"a@b", count)[i], api.ErrLong)
		}
		refused(t, strings.Repeat(" ", count), api.ErrLong)
		refused(t, strings.Repeat("(", count), api.ErrLong)
		refused(t, strings.Repeat("\x00", count), api.ErrLong)
	}
}

// TestParseOfAllShortTexts: also as a piece of a longer text, wherever that may have a gap.
func TestParseOfAllShortTexts(t *testing.T) {
	for _, s := range textsOf("a@,<> ", 7) {
		agrees(t, s)
	}
	for _, s := range textsOf("aA\"\\ ()@.,<>", 3) {
		for _, whole := range []string{s, s + "a@b", "a@b" + s, "a@b" + s + "c@d", s + "<a@b>", "n" + s + "<a@b>", "n" + s + "m<a@b>", "\"" + s + "\"<a@b>", "\"" + s + "<a@b>", "n<" + s + "a@b>", "n<a@b" + s + ">", "n<a@b>" + s, "n<a@b>" + s + "c@d", "(" + s + ")a@b", s + "@b", "a@" + s, "a" + s + "@b", "n<a" + s + "@b>", "n<a@b" + s} {
			agrees(t, whole)
		}
	}
	for _, s := range textsOf("a\"\\ (", 6) {
		agrees(t, s+"\"<a@b>")
		agrees(t, "\""+s+"<a@b>")
	}
	for _, s := range textsOf("a() \"", 6) {
		agrees(t, s+"a@b")
		agrees(t, "n"+s+")<a@b>")
	}
}

func TestParseOfAnyBytes(t *testing.T) {
	r := rand.New(rand.NewSource(21))
	pieces := []string{"a@b", "c.d@e-f", "n", "Ann", " ", " ", "\t", ",", ",", ", ", "<", ">", " <", "<a@b>", " <a@b>,", "\"", "\"\"", "\"q\"", "\\", "\\\"", "(", ")", "(x)", "()", ".", "@", "`", x(30), "\x00", "\xff", "\r\n"}
	told := 0
	for range 60000 {
		var s strings.Builder
		for range r.Intn(12) {
			if r.Intn(30) == 0 {
				s.WriteString(one(r.Intn(256)))
			} else {
				s.WriteString(pieces[r.Intn(len(pieces)-r.Intn(20))])
			}
		}
		if agrees(t, s.String()) {
			told++
		}
	}
	if told < 500 {
		t.Error("so few tell a list:", told)
	}
}

// TestParseOfSpoiledTexts: printed lists, of which a byte or two are other ones, gone, or new.
func TestParseOfSpoiledTexts(t *testing.T) {
	r := rand.New(rand.NewSource(22))
	letters := "a\"\\ ()@.,<>A-\t\x00\xff"
	for range 30000 {
		l := make([]Address, 1+r.Intn(3))
		for i := range l {
			l[i] = anyAddress(r)
		}
		s, _ := slowPrint(l)
		for range 1 + r.Intn(2) {
			i := r.Intn(len(s))
			b := letters[r.Intn(len(letters)):][:1]
			s = []string{s[:i] + b + s[i:], s[:i] + b + s[i+1:], s[:i] + s[i+1:] + "x"}[r.Intn(3)]
		}
		agrees(t, s)
	}
}

func TestAnswersAreApart(t *testing.T) {
	first, _ := Parse("n <a@b>, c@d")
	second, _ := Parse("n <a@b>, c@d")
	first[0] = to("x", "y")
	if !slices.Equal(second, []Address{named("n"), to("c", "d")}) {
		t.Error(briefList(second))
	}
}

// goesThere checks that addresses are printed, parsed, and printed again.
func goesThere(t *testing.T, l []Address) {
	t.Helper()
	s, e := Print(l)
	if e != api.OK {
		t.Errorf("%s: %d", briefList(l), e)
		return
	}
	if len(s) > 16384 {
		refused(t, s, api.ErrLong)
		return
	}
	got, e := Parse(s)
	if !slices.Equal(got, l) || e != api.OK {
		t.Errorf("%s: %s %d", brief(s), briefList(got), e)
	}
	if again, e := Print(got); again != s || e != api.OK {
		t.Errorf("%s: again %s %d", brief(s), brief(again), e)
	}
}

func TestPrintedIsParsed(t *testing.T) {
	for _, name := range rightNames() {
		for _, local := range rightLocals() {
			goesThere(t, []Address{{name, local, "b"}})
		}
		for _, domain := range rightDomains() {
			goesThere(t, []Address{{name, "a", domain}, to("a", domain), {name, "x", "y"}})
		}
		goesThere(t, slices.Repeat([]Address{named(name)}, 64))
		goesThere(t, slices.Repeat([]Address{{name, x(64), x(64)}}, 64))
	}
	for _, name := range textsOf("a \"\\.,", 5) {
		if slowName.MatchString(name) {
			goesThere(t, []Address{named(name), named("n"), named(name)})
		}
	}
	for c := range 95 {
		for _, name := range []string{one(32 + c), "A" + one(32+c) + "B", "A " + one(32+c)} {
			if c != 0 {
				goesThere(t, []Address{named(name)})
			}
		}
	}
}

// TestPrintedOfJustSoManyBytes: a text of 16384 bytes is parsed, one of a byte more isn't.
func TestPrintedOfJustSoManyBytes(t *testing.T) {
	longest := Address{strings.Repeat(`\`, 64), x(64), x(64)}
	l := append(slices.Repeat([]Address{longest}, 62), to("a", "b"), to("a", "b"))
	s, _ := slowPrint(l)
	if len(s) != 16376 {
		t.Fatal(len(s))
	}
	for more, want := range []api.Errno{api.OK, api.OK, api.ErrLong} {
		l[63].Local = "a" + x(7+more)
		s, e := Print(l)
		if len(s) != 16383+more || e != api.OK {
			t.Errorf("%d %d", len(s), e)
		}
		if want != api.OK {
			refused(t, s, want)
			continue
		}
		goesThere(t, l)
		tells(t, s, l...)
	}
}

func TestAnyPrintedIsParsed(t *testing.T) {
	r := rand.New(rand.NewSource(23))
	for range 6000 {
		l := make([]Address, 1+r.Intn(5))
		for i := range l {
			l[i] = anyAddress(r)
		}
		goesThere(t, l)
	}
}

// TestParsedIsPrinted: whatever was parsed is right, so is printed, and tells the same then.
func TestParsedIsPrinted(t *testing.T) {
	r := rand.New(rand.NewSource(24))
	all := gaps()
	gap := func() string { return all[r.Intn(len(all)-2)] }
	for range 6000 {
		var s strings.Builder
		var want []Address
		for range 1 + r.Intn(4) {
			if want != nil {
				s.WriteString(",")
			}
			a := anyAddress(r)
			bare := a.Local + "@" + a.Domain
			if said := `"` + slowMark.ReplaceAllString(a.Name, `\$0`) + `"`; a.Name != "" {
				bare = said + gap() + "<" + gap() + bare + gap() + ">"
			}
			s.WriteString(gap() + bare + gap())
			want = append(want, a)
		}
		tells(t, s.String(), want...)
		l, _ := Parse(s.String())
		goesThere(t, l)
	}
}
