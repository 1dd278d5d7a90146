package addr

import (
	"strings"
	"testing"

	"mailguard/api"
)

func isRight(t *testing.T, a Address, want bool) {
	t.Helper()
	if Right(a) != want || slowRight(a) != want {
		t.Errorf("%s: %v, slowly %v, not %v", briefList([]Address{a}), Right(a), slowRight(a), want)
	}
}

// rightLocals: of them those that are domains, too, are of letters a to z, digits and - alone.
func rightLocals() []string {
	return []string{"a", "A", "9", "-", "a.b", "A.b.C.9", "a-b", "-a-", "!#$%&'*+-/=?^_{|}~`", "`", "a.`.b", "!.!", "Ann", "ABCDEFGHIJKLMNOPQRSTUVWXYZ", "abcdefghijklmnopqrstuvwxyz0123456789", x(63), x(64), "a." + x(62), x(62) + ".a", x(31) + "." + x(32), strings.Repeat("a.", 31) + "ab", strings.Repeat("`", 64)}
}

func wrongLocals() []string {
	return []string{"", ".", "..", ".a", "a.", ".a.", "a..b", "a...b", "a.b..c", "a.b.", ".a.b", x(65), x(64) + ".", "." + x(64), x(64) + ".a", strings.Repeat("a.", 32) + "a", x(32) + "." + x(32), x(1000), x(20000), " ", "a b", " a", "a ", "a\tb", "a\r\n", "(c)a", "a(c)", "a@b", "@", "a,b", "a;b", "a:b", "<a>", "\"a\"", "a\\", "a[b]", "a\x00", "\x00", "a\x7f", "\x7f", "\x80", "\xff", "\xc3\xa9", "a\xef\xbf\xbd", "a. b", "a .b"}
}

func rightDomains() []string {
	return []string{"a", "z", "0", "9", "123", "1.2.3.4", "-", "-a", "a-", "-a-", "--", "a.-", "-.a", "-.-", "a-.-b", "a.b", "a.b.c", "xn--a-b.c", "abcdefghijklmnopqrstuvwxyz0123456789-", x(63), x(64), "a." + x(62), x(62) + ".a", strings.Repeat("a.", 31) + "ab", strings.Repeat("9", 64), strings.Repeat("-", 64)}
}

func wrongDomains() []string {
	return []string{"", ".", "..", ".a", "a.", ".a.", "a..b", "a...b", "a.b..c", "a.b.", "A", "Z", "a.B", "aBc", "ABC", "a.b.cD", x(65), x(64) + ".", "." + x(64), x(64) + ".a", strings.Repeat("a.", 32) + "a", x(32) + "." + x(32), x(1000), x(20000), " ", "a b", " a", "a ", "a\tb", "a\r\n", "(c)a", "a(c)", "a@b", "@", "a,b", "a_b", "a/b", "a`", "!", "a+b", "a~", "[1.2.3.4]", "<a>", "\"a\"", "a\\", "a\x00", "\x00", "a\x7f", "\x80", "\xff", "\xc3\xa9", "a. b"}
}

func rightNames() []string {
	return []string{"", "a", "Ann", "Ann B", "A B C", "a  b", "a   b", "A. B", "a.b", ".", ",", "a, b", "<", ">", "a <b@c>", "(", ")", "(x)", "@", "a@b", "\"", "\\", "\"\"", "\\\\", "\"a", "a\"", "\"a\"", "\"a b\"", "a \" b", "a\\", "\\a", "a\\\"b", "\\\"", "\"\\", "!", "~", "! ~", "a ` b", "`", "a:b;c", "[x]", x(63), x(64), strings.Repeat("\"", 64), strings.Repeat("\\", 64), "a" + strings.Repeat(" ", 62) + "b", x(31) + " " + x(32), x(31) + ". " + x(31)}
}

func wrongNames() []string {
	return []string{" ", "  ", " a", "a ", " a ", "a b ", " \"", "\" ", "\t", "a\tb", "\ta", "a\t", "a\r\n b", "\r", "\n", "a\nb", "\x00", "a\x00", "\x01", "\x1f", "a\x1fb", "\x7f", "a\x7fb", "\x80", "\xff", "\xc3\xa9", "caf\xc3\xa9", "\xef\xbf\xbd", "a\xc2\xa0b", x(65), x(64) + " ", " " + x(64), x(32) + " " + x(32), strings.Repeat("\"", 65), x(1000), x(20000)}
}

func TestRight(t *testing.T) {
	for _, local := range rightLocals() {
		isRight(t, to(local, "b"), true)
		isRight(t, Address{Name: "n", Local: local, Domain: "b"}, true)
	}
	for _, domain := range rightDomains() {
		isRight(t, to("a", domain), true)
		isRight(t, Address{Name: "n", Local: "a", Domain: domain}, true)
	}
	for _, name := range rightNames() {
		isRight(t, named(name), true)
		isRight(t, Address{Name: name, Local: x(64), Domain: x(64)}, true)
	}
}

// wrongAddresses: of each but one of its parts is wrong, but of the last ones.
func wrongAddresses() []Address {
	var all []Address
	for _, local := range wrongLocals() {
		all = append(all, to(local, "b"), Address{Name: "n", Local: local, Domain: "b"})
	}
	for _, domain := range wrongDomains() {
		all = append(all, to("a", domain), Address{Name: "n", Local: "a", Domain: domain})
	}
	for _, name := range wrongNames() {
		all = append(all, named(name))
	}
	return append(all, Address{}, Address{Name: "n"}, Address{Name: " ", Local: ".", Domain: "."}, to(x(65), x(65)))
}

func TestRightOfWrongOnes(t *testing.T) {
	for _, a := range wrongAddresses() {
		isRight(t, a, false)
	}
}

const (
	atomBytes   = "ABCDEFGHIJKLMNOPQRSTUVWXYZabcdefghijklmnopqrstuvwxyz0123456789!#$%&'*+-/=?^_{|}~`"
	domainBytes = "abcdefghijklmnopqrstuvwxyz0123456789-"
)

func TestRightOfEachByte(t *testing.T) {
	for c := range 256 {
		inLocal := strings.Contains(atomBytes, one(c))
		inDomain := strings.Contains(domainBytes, one(c))
		inName := c >= 32 && c <= 126
		for _, s := range []string{one(c), one(c) + "a", "a" + one(c), one(c) + one(c), "a." + one(c), one(c) + ".a", x(63) + one(c), one(c) + x(63)} {
			isRight(t, to(s, "b"), inLocal)
			isRight(t, to("a", s), inDomain)
			isRight(t, named(s), inName && c != 32)
		}
		for _, s := range []string{"a" + one(c) + "b", x(31) + one(c) + x(32)} {
			isRight(t, to(s, "b"), inLocal || c == '.')
			isRight(t, to("a", s), inDomain || c == '.')
			isRight(t, named(s), inName)
		}
		isRight(t, to(x(64)+one(c), "b"), false)
		isRight(t, to("a", x(64)+one(c)), false)
		isRight(t, named(x(64)+one(c)), false)
	}
}

// TestRightOfAllShortParts: of dots, blanks and letters.
func TestRightOfAllShortParts(t *testing.T) {
	for _, s := range textsOf("aA. -@", 6) {
		for _, a := range []Address{to(s, "b"), to("a", s), named(s)} {
			if want := slowRight(a); Right(a) != want {
				t.Errorf("%s: %v", briefList([]Address{a}), !want)
			}
		}
	}
}

func isBox(t *testing.T, s string, want Address) {
	t.Helper()
	if a, e := Mailbox(s); a != want || e != api.OK {
		t.Errorf("%s: %s %d", brief(s), briefList([]Address{a}), e)
	}
	if a, e := slowMailbox(s); a != want || e != api.OK {
		t.Errorf("%s: slowly %s %d", brief(s), briefList([]Address{a}), e)
	}
}

func isNoBox(t *testing.T, s string) {
	t.Helper()
	if a, e := Mailbox(s); a != (Address{}) || e != api.ErrForm {
		t.Errorf("%s: %s %d", brief(s), briefList([]Address{a}), e)
	}
	if _, e := slowMailbox(s); e != api.ErrForm {
		t.Errorf("%s: slowly %d", brief(s), e)
	}
}

func TestMailbox(t *testing.T) {
	for _, local := range rightLocals() {
		for _, domain := range rightDomains() {
			isBox(t, local+"@"+domain, to(local, domain))
		}
	}
	for c := range len(atomBytes) {
		isBox(t, atomBytes[c:c+1]+"@b", to(atomBytes[c:c+1], "b"))
	}
}

func TestMailboxOfWrongTexts(t *testing.T) {
	for _, local := range wrongLocals() {
		isNoBox(t, local+"@b")
	}
	for _, local := range rightLocals() {
		isNoBox(t, local)
		isNoBox(t, local+"@")
		isNoBox(t, "@"+local)
	}
	for _, domain := range wrongDomains() {
		isNoBox(t, "a@"+domain)
	}
	for _, s := range []string{
		"", "@", "a", "a@", "@b", "@@", "a@@b", "a@b@c", "a.b", "a@b,c@d", "a@b, c@d", "a@b,", ",a@b", "a@b;", "a@b c@d",
		// With a name, or in its brackets.
		"n <a@b>", "\"n\" <a@b>", "\"\" <a@b>", "<a@b>", "a@b>", "<a@b", "n a@b", "\"a\"@b",
		// With blanks, tabs, comments or ends.
		" a@b", "a@b ", "\ta@b", "a@b\t", "a @b", "a@ b", "(x)a@b", "a@b(x)", "a(x)@b", "a@(x)b", "a@b()", "()a@b", "a@b\r\n", "a@b\n", "\r\na@b", "a@b\x00", "\x00a@b",
		x(65) + "@b", "a@" + x(65), x(16384) + "@b", x(20000), strings.Repeat("@", 20000),
	} {
		isNoBox(t, s)
	}
}

// TestMailboxIsItsPrint: what tells a mailbox is its text, and nothing else.
func TestMailboxIsItsPrint(t *testing.T) {
	boxes := 0
	for _, s := range textsOf("aA.@- <", 6) {
		a, e := Mailbox(s)
		if want, w := slowMailbox(s); a != want || e != w {
			t.Errorf("%s: %s %d", brief(s), briefList([]Address{a}), e)
		}
		if e != api.OK {
			continue
		}
		boxes++
		if printed, g := Print([]Address{a}); printed != s || g != api.OK {
			t.Errorf("%s: %s %d", brief(s), brief(printed), g)
		}
	}
	if boxes < 500 {
		t.Error("so few mailboxes:", boxes)
	}
}
