package command

import (
	"math"
	"math/rand"
	"strings"
	"testing"

	"mailguard/api"
)

func TestVerbs(t *testing.T) {
	if all := [...]int{Helo, Ehlo, Mail, Rcpt, Data, Rset, Noop, Vrfy, Quit}; all != [...]int{1, 2, 3, 4, 5, 6, 7, 8, 9} {
		t.Error(all)
	}
}

func TestPrint(t *testing.T) {
	for want, c := range map[string]Cmd{
		"HELO a.b":                              {Verb: 1, Arg: "a.b"},
		"EHLO Mail-1.Example":                   {Verb: 2, Arg: "Mail-1.Example"},
		"MAIL FROM:<>":                          {Verb: 3},
		"MAIL FROM:<Ann@high.example>":          {Verb: 3, Arg: "Ann@high.example"},
		"MAIL FROM:<a@b> SIZE=1":                {Verb: 3, Arg: "a@b", Size: 1},
		"MAIL FROM:<a@b> SIZE=999999999":        {Verb: 3, Arg: "a@b", Size: 999999999},
		"MAIL FROM:<a@b> BODY=8BITMIME":         {Verb: 3, Arg: "a@b", Eight: true},
		"MAIL FROM:<a@b> SIZE=10 BODY=8BITMIME": {Verb: 3, Arg: "a@b", Size: 10, Eight: true},
		"MAIL FROM:<> SIZE=16384":               {Verb: 3, Size: 16384},
		"MAIL FROM:<> BODY=8BITMIME":            {Verb: 3, Eight: true},
		"MAIL FROM:<> SIZE=100 BODY=8BITMIME":   {Verb: 3, Size: 100, Eight: true},
		"RCPT TO:<bob@low.example>":             {Verb: 4, Arg: "bob@low.example"},
		"DATA":                                  {Verb: 5},
		"RSET":                                  {Verb: 6},
		"NOOP":                                  {Verb: 7},
		"NOOP hello,  there":                    {Verb: 7, Arg: "hello,  there"},
		"NOOP \t\x00\r\n\xff\t":                 {Verb: 7, Arg: "\t\x00\r\n\xff\t"},
		"VRFY ann":                              {Verb: 8, Arg: "ann"},
		"VRFY <ann@high>":                       {Verb: 8, Arg: "<ann@high>"},
		"QUIT":                                  {Verb: 9},
		"NOOP noop":                             {Verb: 7, Arg: "noop"},
		"NOOP " + strings.Repeat("a ", 3000) + ".": {Verb: 7, Arg: strings.Repeat("a ", 3000) + "."},
	} {
		prints(t, c, want)
	}
}

// TestPrintOfEdges: the longest and the shortest Args and Sizes.
func TestPrintOfEdges(t *testing.T) {
	for _, domain := range append(rightDomains(), capitalDomains()...) {
		prints(t, cmd(Helo, domain), "HELO "+domain)
		prints(t, cmd(Ehlo, domain), "EHLO "+domain)
	}
	for _, local := range rightLocals() {
		for _, domain := range rightDomains() {
			box := local + "@" + domain
			prints(t, cmd(Rcpt, box), "RCPT TO:<"+box+">")
			prints(t, mail(box, 0, false), "MAIL FROM:<"+box+">")
			prints(t, mail(box, 12, true), "MAIL FROM:<"+box+"> SIZE=12 BODY=8BITMIME")
		}
	}
	for size, digits := range map[int]string{1: "1", 2: "2", 9: "9", 10: "10", 16384: "16384", 99999999: "99999999", 100000000: "100000000", 999999998: "999999998", 999999999: "999999999"} {
		prints(t, mail("a@b", size, false), "MAIL FROM:<a@b> SIZE="+digits)
		prints(t, mail("", size, true), "MAIL FROM:<> SIZE="+digits+" BODY=8BITMIME")
	}
	for count := 1; count <= 64; count++ {
		prints(t, cmd(Vrfy, x(count)), "VRFY "+x(count))
		prints(t, cmd(Vrfy, strings.Repeat("~", count)), "VRFY "+strings.Repeat("~", count))
	}
}

func wrongVerbs() []int {
	return []int{0, -1, -9, 10, 11, 12, 100, 250, 256 + 1, 256 + 9, 1<<16 + 1, 1<<32 + 1, 1<<32 + 7, math.MinInt, math.MaxInt, math.MinInt + 1, math.MinInt + 7}
}

func TestPrintOfWrongVerbs(t *testing.T) {
	for _, verb := range wrongVerbs() {
		for _, arg := range []string{"", "a", "a.b", "a@b", "x", "QUIT", "NOOP x", "MAIL FROM:<>", "HELO a"} {
			isNoCmd(t, cmd(verb, arg))
			isNoCmd(t, Cmd{Verb: verb, Arg: arg, Size: 1})
			isNoCmd(t, Cmd{Verb: verb, Arg: arg, Eight: true})
		}
	}
}

func TestPrintOfWrongArgs(t *testing.T) {
	for _, domain := range append(wrongDomains(), " a", "a ", "  a.b", " ", "a SIZE=1") {
		isNoCmd(t, cmd(Helo, domain))
		isNoCmd(t, cmd(Ehlo, domain))
	}
	for _, box := range wrongBoxes() {
		isNoCmd(t, cmd(Mail, box))
		isNoCmd(t, cmd(Rcpt, box))
		isNoCmd(t, mail(box, 5, true))
	}
	isNoCmd(t, cmd(Rcpt, ""))
	// What would be a line, but of another command.
	for _, arg := range []string{"a@b> SIZE=1", "a@b> SIZE=1 BODY=7BIT", "> SIZE=1", "> ", ">", "a@b> BODY=8BITMIME", "a@b>\r\nRCPT TO:<c@d"} {
		isNoCmd(t, cmd(Mail, arg))
		isNoCmd(t, mail(arg, 1, false))
		isNoCmd(t, mail(arg, 0, true))
		isNoCmd(t, cmd(Rcpt, arg))
	}
	for _, verb := range []int{Data, Rset, Quit} {
		for _, arg := range []string{" ", "x", "  ", "\t", "\r\n", "a b", "QUIT", "\x00", x(1000)} {
			isNoCmd(t, cmd(verb, arg))
		}
	}
	for _, arg := range []string{" ", "  ", " x", "x ", " x ", "a b ", " a b", " \t", "\t ", blanks(1000)} {
		isNoCmd(t, cmd(Noop, arg))
		isNoCmd(t, cmd(Vrfy, arg))
	}
	for _, arg := range []string{"", "a b", x(65), x(20000), "\t", "a\tb", "\x1f", "\x7f", "\x80", "\xff", "\u00e9", "a\r\n", "\x00"} {
		isNoCmd(t, cmd(Vrfy, arg))
	}
}

// TestPrintOfWrongSizes: below 0, above nine digits, or of a verb that has none.
func TestPrintOfWrongSizes(t *testing.T) {
	for _, size := range []int{-1, -2, -10, -999999999, -1000000000, math.MinInt, math.MinInt + 1, -1 << 32, 1000000000, 1000000001, 9999999999, 1 << 32, 1<<32 + 1, math.MaxInt, math.MaxInt - 1} {
		for _, box := range []string{"", "a@b"} {
			isNoCmd(t, mail(box, size, false))
			isNoCmd(t, mail(box, size, true))
		}
	}
	for _, c := range ordinary() {
		if c.Verb == Mail {
			continue
		}
		for _, size := range []int{1, -1, 10, 999999999, math.MaxInt, math.MinInt} {
			isNoCmd(t, Cmd{Verb: c.Verb, Arg: c.Arg, Size: size})
			isNoCmd(t, Cmd{Verb: c.Verb, Arg: c.Arg, Size: size, Eight: true})
		}
		isNoCmd(t, Cmd{Verb: c.Verb, Arg: c.Arg, Eight: true})
		isNoCmd(t, Cmd{Verb: c.Verb, Arg: c.Arg + " SIZE=1", Size: 1})
	}
}

func anyArg(r *rand.Rand) string {
	args := []string{"", "", "a", "a.b", "A.B", "a@b", "Ann@b.c", "x y", "a@B", " ", "\t", "\xff", x(64), x(65), x(64) + "@" + x(64), x(65) + "@b"}
	arg := args[r.Intn(len(args))]
	if r.Intn(4) == 0 {
		arg += one(r.Intn(256))
	}
	return arg
}

// TestPrintedIsParsed: of any commands, those that have a line.
func TestPrintedIsParsed(t *testing.T) {
	r := rand.New(rand.NewSource(181))
	sizes := []int{0, 0, 0, 1, 10, 16384, 999999999, 1000000000, -1, math.MaxInt, math.MinInt}
	printed := map[int]int{}
	for range 100000 {
		c := Cmd{Verb: r.Intn(12) - 1, Arg: anyArg(r)}
		if r.Intn(3) == 0 || c.Verb == Mail {
			c.Size, c.Eight = sizes[r.Intn(len(sizes))], r.Intn(2) == 0
		}
		line, e := Print(c)
		if want, w := slowPrint(c); line != want || e != w {
			t.Errorf("%s: %s %d, not %s %d", briefCmd(c), brief(line), e, brief(want), w)
		}
		if e != api.OK {
			continue
		}
		printed[c.Verb]++
		comesBack(t, c)
	}
	for verb := range 10 {
		if verb > 0 && printed[verb] < 300 || printed[0] > 0 {
			t.Errorf("%d of the verb %d are printed", printed[verb], verb)
		}
	}
}
