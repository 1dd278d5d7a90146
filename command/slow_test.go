package command

import (
	"fmt"
	"regexp"
	"strconv"
	"strings"
	"testing"

	"mailguard/api"
)

func x(count int) string { return strings.Repeat("x", count) }

func blanks(count int) string { return strings.Repeat(" ", count) }

// one is a text of that byte.
func one(c int) string { return string([]byte{byte(c)}) }

// cmd is a command without Size and Eight.
func cmd(verb int, arg string) Cmd { return Cmd{Verb: verb, Arg: arg} }

func mail(box string, size int, eight bool) Cmd {
	return Cmd{Verb: Mail, Arg: box, Size: size, Eight: eight}
}

// brief tells a text so that its bytes are seen, of a long one the first and the last.
func brief(s string) string {
	if len(s) > 90 {
		return fmt.Sprintf("%q..%d..%q", s[:45], len(s)-90, s[len(s)-45:])
	}
	return fmt.Sprintf("%q", s)
}

func briefCmd(c Cmd) string {
	return fmt.Sprintf("{%d %s %d %v}", c.Verb, brief(c.Arg), c.Size, c.Eight)
}

func briefReply(r Reply) string { return fmt.Sprintf("{%d %s}", r.Code, brief(r.Text)) }

// latin answers a text of one rune for each byte, so that an expression takes bytes one by one, and its letters are those of ASCII.
func latin(s string) string {
	all := make([]rune, len(s))
	for i := range len(s) {
		all[i] = rune(s[i])
	}
	return string(all)
}

const (
	atomsBy  = "[!#$%&'*+/=?^_{|}~\\x60A-Za-z0-9-]+"
	localBy  = `(?-i:` + atomsBy + `(?:\.` + atomsBy + `)*)`
	domainBy = `(?-i:[a-z0-9-]+(?:\.[a-z0-9-]+)*)`
	boxBy    = `(` + localBy + `@` + domainBy + `)`
	sizeBy   = ` SIZE=([0-9]{1,9})`
	bodyBy   = ` BODY=(7BIT|8BITMIME)`
)

var (
	slowVerb   = regexp.MustCompile(`(?is)\A(HELO|EHLO|MAIL|RCPT|DATA|RSET|NOOP|VRFY|QUIT)(?: (.*))?\z`)
	slowGreet  = regexp.MustCompile(`(?is)\A *([a-z0-9-]+(?:\.[a-z0-9-]+)*) *\z`)
	slowMail   = regexp.MustCompile(`(?is)\A *FROM:<` + boxBy + `?>(?:` + sizeBy + `(?:` + bodyBy + `)?|` + bodyBy + `(?:` + sizeBy + `)?)? *\z`)
	slowRcpt   = regexp.MustCompile(`(?is)\A *TO:<` + boxBy + `> *\z`)
	slowEmpty  = regexp.MustCompile(`\A *\z`)
	slowAny    = regexp.MustCompile(`(?s)\A *(|[^ ]|[^ ].*[^ ]) *\z`)
	slowWord   = regexp.MustCompile(`\A *([!-~]{1,64}) *\z`)
	slowAnswer = regexp.MustCompile(`\A([2-5][0-9][0-9]) ([ -~]{0,500})\z`)
)

func slowNames() []string {
	return []string{"HELO", "EHLO", "MAIL", "RCPT", "DATA", "RSET", "NOOP", "VRFY", "QUIT"}
}

// bytesOf is latin's way back.
func bytesOf(s string) string {
	var all []byte
	for _, r := range s {
		all = append(all, byte(r))
	}
	return string(all)
}

// slowParse tells a command by one expression for each verb's argument.
func slowParse(line string) (Cmd, api.Errno) {
	said := slowVerb.FindStringSubmatch(latin(line))
	if said == nil {
		return Cmd{}, api.ErrKind
	}
	c := Cmd{}
	for i, name := range slowNames() {
		if strings.EqualFold(name, said[1]) {
			c.Verb = i + 1
		}
	}
	by := map[int]*regexp.Regexp{Helo: slowGreet, Ehlo: slowGreet, Mail: slowMail, Rcpt: slowRcpt, Data: slowEmpty, Rset: slowEmpty, Noop: slowAny, Vrfy: slowWord, Quit: slowEmpty}[c.Verb]
	found := by.FindStringSubmatch(said[2])
	if found == nil {
		return Cmd{}, api.ErrForm
	}
	if len(found) > 1 {
		c.Arg = bytesOf(found[1])
	}
	// Expressions count neither a domain's bytes nor a local part's.
	switch local, domain, _ := strings.Cut(c.Arg, "@"); c.Verb {
	case Helo, Ehlo:
		if len(c.Arg) > 64 {
			return Cmd{}, api.ErrForm
		}
	case Mail, Rcpt:
		if len(local) > 64 || len(domain) > 64 {
			return Cmd{}, api.ErrForm
		}
	}
	if c.Verb == Mail {
		c.Size, _ = strconv.Atoi(found[2] + found[5])
		c.Eight = strings.HasPrefix(found[3]+found[4], "8")
	}
	return c, api.OK
}

// slowPrint asks of each field whether it is right.
func slowPrint(c Cmd) (string, api.Errno) {
	if c.Verb < 1 || c.Verb > 9 || c.Verb != Mail && (c.Size != 0 || c.Eight) || c.Size < 0 || c.Size > 999999999 {
		return "", api.ErrForm
	}
	formats := []string{"HELO %s", "EHLO %s", "MAIL FROM:<%s>", "RCPT TO:<%s>", "DATA%s", "RSET%s", "NOOP %s", "VRFY %s", "QUIT%s"}
	line := fmt.Sprintf(formats[c.Verb-1], c.Arg)
	if c.Verb == Noop && c.Arg == "" {
		line = "NOOP"
	}
	if told, e := slowParse(line); e != api.OK || told.Arg != c.Arg || told.Size != 0 || told.Eight {
		return "", api.ErrForm
	}
	if c.Size != 0 {
		line += fmt.Sprintf(" SIZE=%d", c.Size)
	}
	if c.Eight {
		line += " BODY=8BITMIME"
	}
	return line, api.OK
}

func slowRead(line string) (Reply, api.Errno) {
	found := slowAnswer.FindStringSubmatch(latin(line))
	if found == nil {
		return Reply{}, api.ErrForm
	}
	code, _ := strconv.Atoi(found[1])
	return Reply{Code: code, Text: found[2]}, api.OK
}

func slowLine(r Reply) (string, api.Errno) {
	line := fmt.Sprintf("%d %s", r.Code, r.Text)
	if said, e := slowRead(line); e != api.OK || said != r {
		return "", api.ErrForm
	}
	return line + "\r\n", api.OK
}

// tells checks what a line tells, and against the slow way.
func tells(t *testing.T, line string, want Cmd) {
	t.Helper()
	if c, e := Parse(line); c != want || e != api.OK {
		t.Errorf("%s: %s %d, not %s", brief(line), briefCmd(c), e, briefCmd(want))
	}
	if c, e := slowParse(line); c != want || e != api.OK {
		t.Errorf("%s: slowly %s %d, not %s", brief(line), briefCmd(c), e, briefCmd(want))
	}
}

// refused checks that a line is refused so, and against the slow way.
func refused(t *testing.T, line string, want api.Errno) {
	t.Helper()
	if c, e := Parse(line); c != (Cmd{}) || e != want {
		t.Errorf("%s: %s %d, not %d", brief(line), briefCmd(c), e, want)
	}
	if c, e := slowParse(line); e != want {
		t.Errorf("%s: slowly %s %d, not %d", brief(line), briefCmd(c), e, want)
	}
}

// agrees checks a line against the slow way alone, prints what it tells, and answers whether it tells anything.
func agrees(t *testing.T, line string) bool {
	t.Helper()
	c, e := Parse(line)
	if want, w := slowParse(line); c != want || e != w {
		t.Errorf("%s: %s %d, not %s %d", brief(line), briefCmd(c), e, briefCmd(want), w)
	}
	if e == api.OK {
		comesBack(t, c)
	}
	return e == api.OK
}

// comesBack checks that a command is printed as in the slow way, and parsed again.
func comesBack(t *testing.T, c Cmd) {
	t.Helper()
	line, e := Print(c)
	if want, w := slowPrint(c); line != want || e != w || w != api.OK {
		t.Errorf("%s: %s %d, not %s %d", briefCmd(c), brief(line), e, brief(want), w)
	}
	if again, e := Parse(line); again != c || e != api.OK {
		t.Errorf("%s: %s, then %s %d", briefCmd(c), brief(line), briefCmd(again), e)
	}
}

// prints checks a command's line, what that tells, and against the slow way.
func prints(t *testing.T, c Cmd, want string) {
	t.Helper()
	if line, e := Print(c); line != want || e != api.OK {
		t.Errorf("%s: %s %d, not %s", briefCmd(c), brief(line), e, brief(want))
	}
	comesBack(t, c)
}

// isNoCmd checks that a command has no line, and against the slow way.
func isNoCmd(t *testing.T, c Cmd) {
	t.Helper()
	if line, e := Print(c); line != "" || e != api.ErrForm {
		t.Errorf("%s: %s %d", briefCmd(c), brief(line), e)
	}
	if line, e := slowPrint(c); e != api.ErrForm {
		t.Errorf("%s: slowly %s %d", briefCmd(c), brief(line), e)
	}
}

// textsOf answers all rows of at most so many of the pieces.
func textsOf(pieces []string, most int) []string {
	all := []string{""}
	from := 0
	for range most {
		till := len(all)
		for _, s := range all[from:till] {
			for _, piece := range pieces {
				all = append(all, s+piece)
			}
		}
		from = till
	}
	return all
}

func TestTextsOf(t *testing.T) {
	if all := textsOf([]string{"a", "bc"}, 3); len(all) != 15 || all[0] != "" || all[14] != "bcbcbc" {
		t.Error(all)
	}
}
