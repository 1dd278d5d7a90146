package command

import (
	"math/rand"
	"strings"
	"testing"

	"mailguard/api"
)

func TestExample(t *testing.T) {
	tells(t, "mail from:<a@b> size=10", Cmd{Verb: 3, Arg: "a@b", Size: 10})
}

func TestParse(t *testing.T) {
	for line, want := range map[string]Cmd{
		"HELO a.b":                                {Verb: 1, Arg: "a.b"},
		"HELO 10.0.0.1":                           {Verb: 1, Arg: "10.0.0.1"},
		"EHLO Mail-1.Example":                     {Verb: 2, Arg: "Mail-1.Example"},
		"MAIL FROM:<>":                            {Verb: 3},
		"MAIL FROM:<ann@high.example>":            {Verb: 3, Arg: "ann@high.example"},
		"MAIL FROM:<a@b> SIZE=16384":              {Verb: 3, Arg: "a@b", Size: 16384},
		"MAIL FROM:<a@b> BODY=7BIT":               {Verb: 3, Arg: "a@b"},
		"MAIL FROM:<a@b> BODY=8BITMIME":           {Verb: 3, Arg: "a@b", Eight: true},
		"MAIL FROM:<a@b> SIZE=10 BODY=8BITMIME":   {Verb: 3, Arg: "a@b", Size: 10, Eight: true},
		"MAIL FROM:<a@b> BODY=8BITMIME SIZE=10":   {Verb: 3, Arg: "a@b", Size: 10, Eight: true},
		"MAIL FROM:<a@b> SIZE=10 BODY=7BIT":       {Verb: 3, Arg: "a@b", Size: 10},
		"MAIL FROM:<a@b> BODY=7BIT SIZE=10":       {Verb: 3, Arg: "a@b", Size: 10},
		"MAIL FROM:<> SIZE=10":                    {Verb: 3, Size: 10},
		"MAIL FROM:<> BODY=8BITMIME":              {Verb: 3, Eight: true},
		"RCPT TO:<bob@low.example>":               {Verb: 4, Arg: "bob@low.example"},
		"DATA":                                    {Verb: 5},
		"RSET":                                    {Verb: 6},
		"NOOP":                                    {Verb: 7},
		"NOOP hello, there":                       {Verb: 7, Arg: "hello, there"},
		"VRFY ann":                                {Verb: 8, Arg: "ann"},
		"VRFY <ann@high>":                         {Verb: 8, Arg: "<ann@high>"},
		"QUIT":                                    {Verb: 9},
		"noop MAIL FROM:<a@b> SIZE=1":             {Verb: 7, Arg: "MAIL FROM:<a@b> SIZE=1"},
		"mail from:<Ann@b> body=8bitmime size=01": {Verb: 3, Arg: "Ann@b", Size: 1, Eight: true},
	} {
		tells(t, line, want)
	}
}

// ordinary: a line of each verb, in capitals, and what it tells.
func ordinary() map[string]Cmd {
	return map[string]Cmd{"HELO a.b": cmd(Helo, "a.b"), "EHLO a.b": cmd(Ehlo, "a.b"), "MAIL FROM:<a@b>": cmd(Mail, "a@b"), "RCPT TO:<a@b>": cmd(Rcpt, "a@b"), "DATA": cmd(Data, ""), "RSET": cmd(Rset, ""), "NOOP x": cmd(Noop, "x"), "VRFY x": cmd(Vrfy, "x"), "QUIT": cmd(Quit, "")}
}

// mixtures answers a text with its letters A to Z in capitals or not, in all ways.
func mixtures(s string) []string {
	all := []string{""}
	for i := range len(s) {
		ways := []string{s[i : i+1]}
		if s[i] >= 'A' && s[i] <= 'Z' {
			ways = append(ways, one(int(s[i])+32))
		}
		var next []string
		for _, begin := range all {
			for _, way := range ways {
				next = append(next, begin+way)
			}
		}
		all = next
	}
	return all
}

func TestVerbsInAnyLetters(t *testing.T) {
	if len(mixtures("HELO")) != 16 || len(mixtures("FROM:")) != 16 {
		t.Fatal(mixtures("HELO"))
	}
	for line, want := range ordinary() {
		for _, name := range mixtures(line[:4]) {
			tells(t, name+line[4:], want)
			tells(t, name+line[4:]+" ", want)
			if want.Arg == "" {
				tells(t, name, want)
				continue
			}
			tells(t, name+" "+line[4:], want)
		}
	}
}

func TestKeysInAnyLetters(t *testing.T) {
	for _, key := range mixtures("FROM:") {
		tells(t, "MAIL "+key+"<a@b>", cmd(Mail, "a@b"))
		tells(t, "mail "+key+"<>", cmd(Mail, ""))
	}
	for _, key := range mixtures("TO:") {
		tells(t, "RCPT "+key+"<a@b>", cmd(Rcpt, "a@b"))
	}
	for _, key := range mixtures("SIZE=7") {
		tells(t, "MAIL FROM:<a@b> "+key, mail("a@b", 7, false))
	}
	for _, said := range mixtures("BODY=7BIT") {
		tells(t, "MAIL FROM:<a@b> "+said, mail("a@b", 0, false))
	}
	for _, said := range mixtures("BODY=8BITMIME") {
		tells(t, "MAIL FROM:<a@b> "+said, mail("a@b", 0, true))
		tells(t, "MAIL FROM:<a@b> size=3 "+said, mail("a@b", 3, true))
	}
}

// TestNoVerb: also where there would be an argument that is right, or one that isn't.
func TestNoVerb(t *testing.T) {
	for _, name := range []string{"", "H", "HEL", "HELOO", "EHLOX", "XEHLO", "HELO:", "HELO,", "SEND", "SAML", "SOML", "EXPN", "HELP", "TURN", "STARTTLS", "AUTH", "LHLO", "MAILFROM", "MAILFROM:<a@b>", "MAIL:", "RCPTTO:<a@b>", "RCPT\t", "DATA.", "DAT", "ATA", "DATADATA", "RSET;", "NOOP\r\n", "NOOP\n", "QUIT\r\n", "QUIT\r", "QUIT\x00", "\x00QUIT", "\tQUIT", "\r\nQUIT", "QUIT\t", "QUITX", "QUI", "Q", "9", "0", "1", "5", ".", "..", "-", "<", "<a@b>", "FROM:<a@b>", "TO:<a@b>", "SIZE=1", "BODY=7BIT", "\xff", "\u00e9", "MA\u0130L", "ma\u0131l", "r\u017fet", "R\u017fET", "\uff31UIT", "QU\u0406T", "\u212aELO", "HELO\u00a0", "QUIT\u00a0x", x(4), x(1000), strings.Repeat("HELO", 5000)} {
		for _, arg := range []string{"", " ", "  ", " a.b", " FROM:<a@b>", " TO:<a@b>", " x y", " \xff"} {
			refused(t, name+arg, api.ErrKind)
		}
	}
	// A blank ahead of a verb: there is none, and the verb is in its argument.
	for line := range ordinary() {
		refused(t, " "+line, api.ErrKind)
		refused(t, "   "+line, api.ErrKind)
		refused(t, "\t"+line, api.ErrKind)
	}
	for _, count := range []int{1, 2, 100, 20000} {
		refused(t, blanks(count), api.ErrKind)
	}
}

// TestEachByteOfVerbs: another byte in a verb's place, one more, or one less.
func TestEachByteOfVerbs(t *testing.T) {
	for line, want := range ordinary() {
		for at := range 4 {
			refused(t, line[:at]+line[at+1:], api.ErrKind)
			for c := range 256 {
				spoiled := line[:at] + one(c) + line[at+1:]
				if c == int(line[at]) || c == int(line[at])+32 {
					tells(t, spoiled, want)
				} else {
					refused(t, spoiled, api.ErrKind)
				}
				refused(t, line[:at]+one(c)+line[at:], api.ErrKind)
			}
		}
		for c := range 256 {
			if c != ' ' {
				refused(t, line[:4]+one(c)+line[4:], api.ErrKind)
			}
		}
	}
}

// TestBlanksAroundArguments: they go, but blanks alone; within an argument they stay.
func TestBlanksAroundArguments(t *testing.T) {
	for line, want := range ordinary() {
		for _, before := range []int{1, 2, 3, 100, 20000} {
			for _, behind := range []int{0, 1, 2, 100, 20000} {
				tells(t, line[:4]+blanks(before)+strings.TrimPrefix(line[4:], " ")+blanks(behind), want)
				tells(t, "MAIL"+blanks(before)+"FROM:<> BODY=8BITMIME SIZE=2"+blanks(behind), mail("", 2, true))
				tells(t, "NOOP"+blanks(before)+"a  b"+blanks(behind), cmd(Noop, "a  b"))
			}
		}
	}
	// Tabs and ends are no blanks.
	for _, gap := range []string{"\t", "\r\n", "\n", "\x00", "\x0b", "\xa0", "\u00a0"} {
		for line := range ordinary() {
			if line[:4] != "NOOP" {
				refused(t, line[:4]+" "+gap+strings.TrimPrefix(line[4:], " "), api.ErrForm)
				if len(line) > 4 {
					refused(t, line+gap, api.ErrForm)
				}
				refused(t, line+" "+gap, api.ErrForm)
			}
		}
		tells(t, "NOOP "+gap, cmd(Noop, gap))
		tells(t, "NOOP  "+gap+"  x "+gap+"  ", cmd(Noop, gap+"  x "+gap))
	}
}

// TestNoArgument: none, a blank with nothing behind it, blanks alone.
func TestNoArgument(t *testing.T) {
	for i, name := range slowNames() {
		for _, gap := range []string{"", " ", "  ", blanks(1000)} {
			switch i + 1 {
			case Data, Rset, Noop, Quit:
				tells(t, name+gap, cmd(i+1, ""))
			default:
				refused(t, name+gap, api.ErrForm)
			}
		}
	}
}

func rightDomains() []string {
	return []string{"a", "z", "0", "9", "123", "1.2.3.4", "-", "-a", "a-", "--", "a.-", "-.-", "a.b", "a.b.c", "xn--a-b.c", "abcdefghijklmnopqrstuvwxyz0123456789-", x(63), x(64), "a." + x(62), x(62) + ".a", strings.Repeat("a.", 31) + "ab", strings.Repeat("9", 64), strings.Repeat("-", 64)}
}

// wrongDomains: also with small letters for their capitals.
func wrongDomains() []string {
	return []string{"", ".", "..", ".a", "a.", ".a.", "a..b", "a...b", "a.b..c", "a.b.", x(65), x(64) + ".", "." + x(64), x(64) + ".a", strings.Repeat("a.", 32) + "a", x(32) + "." + x(32), x(1000), x(20000), strings.Repeat("X", 65), "a b", "a.b c", "a .b", "a\tb", "a\r\n", "(c)a", "a(c)", "a@b", "@", "@b", "a,b", "a_b", "a/b", "a`", "[", "!", "a+b", "a~", "[1.2.3.4]", "<a>", "\"a\"", "a\\", "a\x00", "\x00", "a\x7f", "\x80", "\xff", "\u00e9", "\u212a", "a.\u212a", "\u017f", "\u0130", "a{", "{", "a@", "`"}
}

// capitalDomains: domains of HELO, but not of a mailbox.
func capitalDomains() []string {
	return []string{"A", "Z", "a.B", "aBc", "ABC", "A.B.C", "Mail-1.Example", "XN--A", "ABCDEFGHIJKLMNOPQRSTUVWXYZ0123456789-", strings.Repeat("X", 64), strings.Repeat("A.", 31) + "ab"}
}

func TestDomains(t *testing.T) {
	for _, verb := range []int{Helo, Ehlo} {
		name := slowNames()[verb-1]
		for _, domain := range append(rightDomains(), capitalDomains()...) {
			tells(t, name+" "+domain, cmd(verb, domain))
			tells(t, name+"  "+domain+"  ", cmd(verb, domain))
			refused(t, name+domain, api.ErrKind)
			refused(t, name+" <"+domain+">", api.ErrForm)
			refused(t, name+" "+domain+" "+domain, api.ErrForm)
			refused(t, name+" "+domain+" SIZE=1", api.ErrForm)
		}
		for _, domain := range wrongDomains() {
			refused(t, name+" "+domain, api.ErrForm)
		}
		for c := range 256 {
			inside := strings.Contains("ABCDEFGHIJKLMNOPQRSTUVWXYZabcdefghijklmnopqrstuvwxyz0123456789-", one(c))
			for _, domain := range []string{"a" + one(c) + "b", "a." + one(c) + "b.c", x(31) + one(c) + x(32)} {
				if inside {
					tells(t, name+" "+domain, cmd(verb, domain))
				} else {
					agrees(t, name+" "+domain)
				}
			}
			if !inside && c != '.' && c != ' ' {
				refused(t, name+" a"+one(c), api.ErrForm)
				refused(t, name+" "+one(c), api.ErrForm)
				refused(t, name+" "+one(c)+"a", api.ErrForm)
			}
			refused(t, name+" "+x(64)+"x"+one(c), api.ErrForm)
		}
	}
}

func rightLocals() []string {
	return []string{"a", "A", "9", "-", "a.b", "A.b.C.9", "a-b", "!#$%&'*+-/=?^_{|}~`", "`", "a.`.b", "SIZE=1", "from", "x=y", "Ann", "ABCDEFGHIJKLMNOPQRSTUVWXYZ", "abcdefghijklmnopqrstuvwxyz0123456789", x(63), x(64), "a." + x(62), x(62) + ".a", strings.Repeat("a.", 31) + "ab", strings.Repeat("`", 64)}
}

func wrongLocals() []string {
	return []string{"", ".", "..", ".a", "a.", "a..b", "a.b.", x(65), x(64) + ".", "." + x(64), strings.Repeat("a.", 32) + "a", x(32) + "." + x(32), x(20000), " ", "a b", " a", "a ", "a\tb", "a\r\n", "(c)a", "a(c)", "a@b", "@", "a,b", "a;b", "a:b", "<a", "<a>", ">a", "a>", "\"a\"", "a\\", "a[b]", "a\x00", "a\x7f", "\x80", "\xff", "\u00e9"}
}

// wrongBoxes: texts that are no mailboxes, none of them empty.
func wrongBoxes() []string {
	all := []string{"a", "@", "a@", "@b", "@@", "a@@b", "a@b@c", "a.b", "a@b,c@d", "a@b, c@d", "n <a@b>", "<a@b>", "<a@b", "a@b>", "<", ">", "<>", " ", "  ", " a@b", "a@b ", "a @b", "a@ b", "(x)a@b", "a@b(x)", "\"a\"@b", "a@b\r\n", "postmaster", "a@b> ", "a@b SIZE=1", "@c:a@b", "\x00"}
	for _, local := range wrongLocals() {
		all = append(all, local+"@b")
	}
	for _, domain := range append(wrongDomains(), capitalDomains()...) {
		all = append(all, "a@"+domain)
	}
	return all
}

func TestMailboxes(t *testing.T) {
	for _, local := range rightLocals() {
		for _, domain := range rightDomains() {
			box := local + "@" + domain
			tells(t, "MAIL FROM:<"+box+">", cmd(Mail, box))
			tells(t, "RCPT TO:<"+box+">", cmd(Rcpt, box))
			tells(t, "mail  from:<"+box+"> size=5 body=8bitmime ", mail(box, 5, true))
		}
	}
	for _, box := range wrongBoxes() {
		refused(t, "MAIL FROM:<"+box+">", api.ErrForm)
		refused(t, "RCPT TO:<"+box+">", api.ErrForm)
		refused(t, "MAIL FROM:<"+box+"> SIZE=5", api.ErrForm)
		refused(t, "MAIL FROM:<"+box+"> BODY=7BIT", api.ErrForm)
	}
	for c := range 256 {
		for _, box := range []string{one(c) + "@b", "a" + one(c) + "@b", "a@" + one(c), "a@b" + one(c), one(c) + "a@b", "a" + one(c) + "b@c" + one(c) + "d", x(63) + one(c) + "@b", x(64) + one(c) + "@b", "a@" + one(c) + x(63), "a@" + one(c) + x(64)} {
			agrees(t, "MAIL FROM:<"+box+">")
			agrees(t, "RCPT TO:<"+box+">")
		}
	}
}

// TestNothingBetween < and >: a sender, but no recipient.
func TestNothingBetween(t *testing.T) {
	tells(t, "MAIL FROM:<>", cmd(Mail, ""))
	tells(t, "MAIL FROM:<> SIZE=1", mail("", 1, false))
	for _, line := range []string{"RCPT TO:<>", "rcpt to:<>", "RCPT  TO:<> ", "RCPT TO:< >", "RCPT TO:<> SIZE=1", "MAIL FROM:< >", "MAIL FROM:<  > SIZE=1", "MAIL FROM:", "RCPT TO:", "MAIL FROM", "RCPT TO", "MAIL FROM:<", "RCPT TO:<", "MAIL FROM:>", "RCPT TO:>", "MAIL FROM:><", "RCPT TO:><", "MAIL <>", "MAIL TO:<>", "MAIL FROM:SIZE=1", "MAIL FROM: SIZE=1", "MAIL SIZE=1", "MAIL BODY=7BIT"} {
		refused(t, line, api.ErrForm)
	}
}

// TestAroundPaths: what stands ahead of < or behind >, and is none of what may.
func TestAroundPaths(t *testing.T) {
	keys := []string{"", "a", ":", "FROM", "TO", "FROM ", "FROM;", "FROM=", "FROM::", "FROM: ", "FROM:  ", "FROM :", "FROM:\t", "FROM:a", "FROM:<", "XFROM:", "x FROM:", "FRO:", "FROMM:", "FROM:FROM:", "FROM:TO:", "TO: ", "TO :", "TO:\t", "TO:a", "TO:<", "TOO:", "T:", "ATO:", "a TO:", "TO:TO:", "TO:FROM:", "FROM:n ", "TO:n ", "\x00FROM:", "FROM:\x00", "\uff26ROM:", "FR\u041eM:", "\xc6ROM:", "T\x0f:", "\xd4O:", "F\x12OM:"}
	behinds := []string{">", "<", "<>", "x", ".", ",", ";", "\t", "\x00", "\r\n", "\xff", "SIZE=1", "BODY=7BIT", ",<a@b>", ">>", "> SIZE=1", " >", " x", " <c@d>", " ,", " X=1", " SIZE", " AUTH=<>", " SMTPUTF8", " RET=FULL", " NOTIFY=NEVER", " \t", " \x00", " \r\n", " \xff", " =", " =1"}
	for _, verb := range []string{"MAIL ", "RCPT "} {
		for _, key := range keys {
			refused(t, verb+key+"<a@b>", api.ErrForm)
			refused(t, verb+key+"<>", api.ErrForm)
			refused(t, verb+key+"<a@b> SIZE=1", api.ErrForm)
			refused(t, verb+key, api.ErrForm)
		}
		for _, behind := range behinds {
			refused(t, verb+"FROM:<a@b>"+behind, api.ErrForm)
			refused(t, verb+"TO:<a@b>"+behind, api.ErrForm)
			refused(t, verb+"FROM:<>"+behind, api.ErrForm)
			refused(t, verb+"FROM:<a@b>"+behind+" SIZE=1", api.ErrForm)
			refused(t, verb+"FROM:<a@b> SIZE=1"+behind, api.ErrForm)
			refused(t, verb+"FROM:<a@b> BODY=8BITMIME"+behind, api.ErrForm)
		}
		for _, box := range []string{"a@b", "", "<a@b", "a@b>", "a", " <a@b>", "a@b> <c@d"} {
			refused(t, verb+box, api.ErrForm)
			refused(t, verb+"FROM:"+box, api.ErrForm)
			refused(t, verb+"TO:"+box, api.ErrForm)
		}
	}
	// One's key, or what may stand behind one's path, isn't the other's.
	for _, line := range []string{"MAIL TO:<a@b>", "RCPT FROM:<a@b>", "RCPT TO:<a@b> SIZE=1", "RCPT TO:<a@b> SIZE=0", "RCPT TO:<a@b> BODY=7BIT", "RCPT TO:<a@b> BODY=8BITMIME", "RCPT TO:<a@b> SIZE=1 BODY=7BIT", "RCPT TO:<a@b> TO:<c@d>", "RCPT TO:<a@b><c@d>", "RCPT TO:<a@b>, <c@d>", "MAIL FROM:<a@b> FROM:<c@d>", "MAIL FROM:<a@b> TO:<c@d>"} {
		refused(t, line, api.ErrForm)
	}
}

func TestSizes(t *testing.T) {
	for digits, size := range map[string]int{"0": 0, "1": 1, "9": 9, "00": 0, "01": 1, "10": 10, "007": 7, "16384": 16384, "16385": 16385, "123456789": 123456789, "99999999": 99999999, "999999999": 999999999, "100000000": 100000000, "000000000": 0, "000000001": 1, "000000010": 10, "012345678": 12345678, "08": 8, "09": 9, "0777": 777} {
		for _, box := range []string{"", "a@b"} {
			tells(t, "MAIL FROM:<"+box+"> SIZE="+digits, mail(box, size, false))
			tells(t, "MAIL FROM:<"+box+"> SIZE="+digits+" ", mail(box, size, false))
			tells(t, "MAIL FROM:<"+box+"> SIZE="+digits+" BODY=8BITMIME", mail(box, size, true))
			tells(t, "MAIL FROM:<"+box+"> BODY=8BITMIME SIZE="+digits, mail(box, size, true))
			tells(t, "MAIL FROM:<"+box+"> BODY=7BIT SIZE="+digits, mail(box, size, false))
		}
	}
	for _, said := range []string{"SIZE", "SIZE=", "SIZE= ", "SIZE= 1", "SIZE =1", "SIZE = 1", "SIZE==1", "SIZE=1=", "SIZE:1", "SIZE1", "SIZE=1,", "SIZE=1;", "SIZE=-1", "SIZE=-0", "SIZE=+1", "SIZE=1.0", "SIZE=1e3", "SIZE=0x1", "SIZE=0b1", "SIZE=0o7", "SIZE=1_0", "SIZE=a", "SIZE=1a", "SIZE=a1", "SIZE=1K", "SIZE=\t1", "SIZE=1\t", "SIZE=1\x00", "SIZE=\xb2", "SIZE=\u0661", "SIZE=\uff11", "SIZE=\"1\"", "SIZE=<1>", "SIZE=/", "SIZE=:", "SIZE=0000000000", "SIZE=0000000001", "SIZE=1000000000", "SIZE=1234567890", "SIZE=9999999999", "SIZE=4294967296", "SIZE=18446744073709551616", "SIZE=18446744073709551617", "SIZE=" + strings.Repeat("0", 100), "SIZE=" + strings.Repeat("9", 20000), "XSIZE=1", "SIZ=1", "SIZEE=1", "ISZE=1", "\u017fize=1", "S\u0130ZE=1", "s\u0131ze=1", "=1", "1"} {
		refused(t, "MAIL FROM:<a@b> "+said, api.ErrForm)
		refused(t, "MAIL FROM:<> "+said, api.ErrForm)
		refused(t, "MAIL FROM:<a@b> "+said+" BODY=7BIT", api.ErrForm)
		refused(t, "MAIL FROM:<a@b> BODY=8BITMIME "+said, api.ErrForm)
	}
	for count := range 40 {
		line := "MAIL FROM:<a@b> SIZE=" + strings.Repeat("0", count)
		if count >= 1 && count <= 9 {
			tells(t, line, mail("a@b", 0, false))
		} else {
			refused(t, line, api.ErrForm)
		}
	}
}

func TestBodies(t *testing.T) {
	for _, said := range []string{"BODY", "BODY=", "BODY= ", "BODY= 7BIT", "BODY =7BIT", "BODY==7BIT", "BODY=7BIT=", "BODY:7BIT", "BODY7BIT", "BODY=7", "BODY=8", "BODY=7BITX", "BODY=X7BIT", "BODY=7BI", "BODY=7 BIT", "BODY=7-BIT", "BODY=7BITMIME", "BODY=8BIT", "BODY=8BITMIM", "BODY=8BITMIMEX", "BODY=8BIT MIME", "BODY=8BITMIME,", "BODY=9BIT", "BODY=BINARYMIME", "BODY=1", "BODY=\"7BIT\"", "BODY=7BIT,8BITMIME", "BODY=7BIT\x00", "BODY=7BIT\t", "BODY=7B\u0130T", "body=7b\u0131t", "BODY=8BITM\u0130ME", "XBODY=7BIT", "BOD=7BIT", "BODYY=7BIT", "7BIT", "8BITMIME", "=7BIT", "SIZE=7BIT", "BODY=10", "BODY=000000010"} {
		refused(t, "MAIL FROM:<a@b> "+said, api.ErrForm)
		refused(t, "MAIL FROM:<> "+said, api.ErrForm)
		refused(t, "MAIL FROM:<a@b> SIZE=1 "+said, api.ErrForm)
		refused(t, "MAIL FROM:<a@b> "+said+" SIZE=1", api.ErrForm)
	}
}

// TestParamsTwice: each once at most, in all rows of some, whatever they say.
func TestParamsTwice(t *testing.T) {
	pieces := []string{" SIZE=10", " size=10", " SIZE=0", " BODY=7BIT", " BODY=8BITMIME", " body=8bitmime"}
	told := 0
	for _, row := range textsOf(pieces, 4) {
		sizes, bodies := strings.Count(strings.ToUpper(row), "SIZE="), strings.Count(strings.ToUpper(row), "BODY=")
		line := "MAIL FROM:<a@b>" + row
		if sizes > 1 || bodies > 1 {
			refused(t, line, api.ErrForm)
			continue
		}
		told++
		want := mail("a@b", 0, strings.Contains(strings.ToUpper(row), "8BITMIME"))
		if strings.Contains(row, "10") {
			want.Size = 10
		}
		tells(t, line, want)
		// With two blanks ahead of one, or none.
		if row != "" {
			refused(t, strings.Replace(line, "> ", ">  ", 1), api.ErrForm)
			refused(t, strings.Replace(line, "> ", ">", 1), api.ErrForm)
		}
		if last := strings.LastIndex(row, " "); last > 0 {
			refused(t, "MAIL FROM:<a@b>"+row[:last]+" "+row[last:], api.ErrForm)
			refused(t, "MAIL FROM:<a@b>"+row[:last]+row[last+1:], api.ErrForm)
			refused(t, "MAIL FROM:<a@b>"+row[:last]+"\t"+row[last+1:], api.ErrForm)
		}
		tells(t, line+"  ", want)
	}
	if told != 1+6+2*3*3 {
		t.Error(told)
	}
}

func TestVrfy(t *testing.T) {
	for count := range 200 {
		for _, letter := range []string{"x", "!", "~"} {
			word := strings.Repeat(letter, count)
			if count >= 1 && count <= 64 {
				tells(t, "VRFY "+word, cmd(Vrfy, word))
				tells(t, "VRFY  "+word+"  ", cmd(Vrfy, word))
			} else {
				refused(t, "VRFY "+word, api.ErrForm)
			}
		}
	}
	refused(t, "VRFY "+x(20000), api.ErrForm)
	for c := range 256 {
		for _, word := range []string{one(c), one(c) + "a", "a" + one(c), "a" + one(c) + "b", one(c) + one(c), x(63) + one(c), one(c) + x(63), x(31) + one(c) + x(32)} {
			switch {
			case c >= 33 && c <= 126:
				tells(t, "VRFY "+word, cmd(Vrfy, word))
			case c == 32:
				agrees(t, "VRFY "+word)
			default:
				refused(t, "VRFY "+word, api.ErrForm)
			}
		}
		if c != ' ' {
			refused(t, "VRFY "+x(64)+one(c), api.ErrForm)
			refused(t, "VRFY "+one(c)+x(64), api.ErrForm)
		}
	}
	for _, word := range []string{"a b", "ann  bob", "a\tb", "\x1f", "\x7f", "\u00e9"} {
		refused(t, "VRFY "+word, api.ErrForm)
	}
	tells(t, "VRFY SIZE=1", cmd(Vrfy, "SIZE=1"))
	tells(t, "VRFY <>", cmd(Vrfy, "<>"))
}

// TestNoop: anything but blanks at its ends.
func TestNoop(t *testing.T) {
	for _, arg := range []string{"", "x", "a b", "a   b", "QUIT", "FROM:<a@b>", "<>", "SIZE=1 SIZE=1", "\t", "\ta\t", "\x00", "\x00 \x00", "\xff", "\u00e9", "a\r\nb", "\r\n", "\n", "\x7f", "\u00a0", x(64), x(65), x(998), x(16385), x(100000), strings.Repeat("a ", 20000) + "a"} {
		tells(t, "NOOP "+arg, cmd(Noop, arg))
		tells(t, "noop   "+arg+"  ", cmd(Noop, arg))
	}
	for c := range 256 {
		tells(t, "NOOP a"+one(c)+"b", cmd(Noop, "a"+one(c)+"b"))
		if c != ' ' {
			tells(t, "NOOP "+one(c), cmd(Noop, one(c)))
			tells(t, "NOOP  "+one(c)+"a"+one(c)+" ", cmd(Noop, one(c)+"a"+one(c)))
		}
	}
}

// TestNothingBehind DATA, RSET and QUIT.
func TestNothingBehind(t *testing.T) {
	for _, name := range []string{"DATA", "RSET", "QUIT"} {
		for _, arg := range []string{"x", " x", "x ", "0", ".", "now", "a b", "\t", "\x00", "\r\n", "\n", "\xff", "\u00a0", "<>", name, "SIZE=1", "BODY=8BITMIME", "FROM:<a@b>", x(20000)} {
			refused(t, name+" "+arg, api.ErrForm)
			refused(t, strings.ToLower(name)+"  "+arg, api.ErrForm)
		}
		for c := range 256 {
			if c != ' ' {
				refused(t, name+" "+one(c), api.ErrForm)
				refused(t, name+"   "+one(c)+"  ", api.ErrForm)
			}
		}
	}
}

// TestEachByteOfLines: another byte in each place, one more, or one less.
func TestEachByteOfLines(t *testing.T) {
	told := 0
	for _, line := range []string{"HELO a.B", "EHLO a-b", "MAIL FROM:<a@b>", "MAIL FROM:<> SIZE=10 BODY=8BITMIME", "mail from:<a.c@b> body=7bit size=123456789", "RCPT TO:<a@b.c>", "DATA", "RSET ", "NOOP a  b", "VRFY ann", " QUIT"} {
		for at := range len(line) + 1 {
			for c := range 256 {
				if agrees(t, line[:at]+one(c)+line[at:]) {
					told++
				}
				if at < len(line) && agrees(t, line[:at]+one(c)+line[at+1:]) {
					told++
				}
			}
			agrees(t, line[:at])
			agrees(t, line[at:])
			if at < len(line) {
				agrees(t, line[:at]+line[at+1:])
			}
		}
	}
	if told < 5000 {
		t.Error("so few tell a command:", told)
	}
}

func TestAllShortRows(t *testing.T) {
	told := 0
	try := func(line string) {
		if agrees(t, line) {
			told++
		}
	}
	for _, row := range textsOf([]string{" ", "a", "@", "<", ">", "FROM:", "to:", "SIZE=1", "body=7bit"}, 5) {
		try("MAIL " + row)
		try("RCPT " + row)
	}
	for _, row := range textsOf([]string{" ", "=", "1", "a", ">", "SIZE", "BODY", "7bit", "8BITMIME"}, 5) {
		try("MAIL FROM:<a@b>" + row)
	}
	for _, row := range textsOf([]string{" ", "A", "b", ".", "-", "<", "\t", "\xff"}, 5) {
		try("HELO" + row)
		try("vrfy" + row)
		try("NOOP" + row)
		try("Data" + row)
	}
	for _, row := range textsOf([]string{" ", "QUIT", "quit", "Q", "mail", "NOOP", "FROM:<>"}, 5) {
		try(row)
	}
	if told < 6000 {
		t.Error("so few tell a command:", told)
	}
}

func TestAnyLines(t *testing.T) {
	r := rand.New(rand.NewSource(18))
	pieces := []string{"\x00", "\xff", "\r\n", "\t", x(64), x(65), "1234567890", "<", ">", "=", ".", "FROM:", "TO:", "SIZE=", "BODY=", "A.B", "a.b", "<c@d>", "0", "12", " ", "  ", " SIZE=10", " SIZE=7", " BODY=7BIT", " body=8bitmime", " "}
	starts := []string{"HELO ", "ehlo ", "MAIL FROM:<a@b>", "mail from:<>", "RCPT TO:<a@b>", "rcpt to:<", "DATA", "RSET", "NOOP ", "VRFY ", "Quit", "", "MAIL ", "MAIL FROM:<a@b>", "mail from:<>"}
	told := 0
	for range 60000 {
		var line strings.Builder
		line.WriteString(starts[r.Intn(len(starts))])
		for range r.Intn(5) {
			if r.Intn(20) == 0 {
				line.WriteString(one(r.Intn(256)))
			} else {
				line.WriteString(pieces[len(pieces)-1-r.Intn(len(pieces)-r.Intn(15))])
			}
		}
		if agrees(t, line.String()) {
			told++
		}
	}
	if told < 10000 {
		t.Error("so few tell a command:", told)
	}
}
