package addr

import (
	"fmt"
	"regexp"
	"slices"
	"strings"
	"testing"

	"mailguard/api"
)

func x(count int) string { return strings.Repeat("x", count) }

// one is a text of that byte.
func one(c int) string { return string([]byte{byte(c)}) }

// to is an address without a name.
func to(local, domain string) Address { return Address{Local: local, Domain: domain} }

// named is an address of that name.
func named(name string) Address { return Address{Name: name, Local: "a", Domain: "b"} }

// brief tells a text so that its bytes are seen, of a long one the first and the last.
func brief(s string) string {
	if len(s) > 90 {
		return fmt.Sprintf("%q..%d..%q", s[:45], len(s)-90, s[len(s)-45:])
	}
	return fmt.Sprintf("%q", s)
}

func briefList(l []Address) string {
	var all []string
	for _, a := range l[:min(len(l), 5)] {
		all = append(all, "{"+brief(a.Name)+" "+brief(a.Local)+" "+brief(a.Domain)+"}")
	}
	return fmt.Sprintf("%d addresses: %s", len(l), strings.Join(all, " "))
}

const (
	atomBy    = "[!#$%&'*+/=?^_{|}~\\x60A-Za-z0-9-]+"
	localBy   = atomBy + `(?:\.` + atomBy + `)*`
	domainBy  = `[a-z0-9-]+(?:\.[a-z0-9-]+)*`
	quotedBy  = `"(?:[^"\\]|\\.)*"`
	wordBy    = `(?:` + atomBy + `|` + quotedBy + `)`
	gapBy     = `(?:[ \t]|\([^()]*\))*`
	bareBy    = `(` + localBy + `)@(` + domainBy + `)`
	namedBy   = `((?:` + wordBy + gapBy + `)+)<` + gapBy + bareBy + gapBy + `>`
	addressBy = `\A(?s:` + gapBy + `(?:` + bareBy + `|` + namedBy + `)` + gapBy + `(,|\z))`
	pieceBy   = `(?s:[ \t]|\([^()]*\)|` + quotedBy + `|` + atomBy + `)`
)

var (
	slowAtoms   = regexp.MustCompile(`\A` + atomBy + `(?: ` + atomBy + `)*\z`)
	slowLocal   = regexp.MustCompile(`\A` + localBy + `\z`)
	slowDomain  = regexp.MustCompile(`\A` + domainBy + `\z`)
	slowName    = regexp.MustCompile(`\A(?:[!-~](?:[ -~]{0,62}[!-~])?)?\z`)
	slowBare    = regexp.MustCompile(`\A` + bareBy + `\z`)
	slowAddress = regexp.MustCompile(addressBy)
	slowPiece   = regexp.MustCompile(pieceBy)
	slowMark    = regexp.MustCompile(`["\\]`)
	slowSaid    = regexp.MustCompile(`(?s)\\(.)`)
)

// slowRight tells in another way than the program whether an address is right.
func slowRight(a Address) bool {
	return slowName.MatchString(latin(a.Name)) && slowLocal.MatchString(latin(a.Local)) && slowDomain.MatchString(latin(a.Domain)) && len(a.Local) <= 64 && len(a.Domain) <= 64
}

// latin answers a text of one rune for each byte, so that an expression takes bytes one by one.
func latin(s string) string {
	all := make([]rune, len(s))
	for i := range len(s) {
		all[i] = rune(s[i])
	}
	return string(all)
}

func slowText(a Address) string {
	bare := a.Local + "@" + a.Domain
	switch {
	case a.Name == "":
		return bare
	case slowAtoms.MatchString(a.Name):
		return a.Name + " <" + bare + ">"
	}
	return `"` + slowMark.ReplaceAllString(a.Name, `\$0`) + `" <` + bare + ">"
}

func slowPrint(l []Address) (string, api.Errno) {
	var all []string
	for _, a := range l {
		if !slowRight(a) {
			return "", api.ErrForm
		}
		all = append(all, slowText(a))
	}
	switch {
	case len(l) == 0:
		return "", api.ErrForm
	case len(l) > 64:
		return "", api.ErrLong
	}
	return strings.Join(all, ", "), api.OK
}

// slowWords answers the name that words and what stands between them tell.
func slowWords(s string) string {
	var words []string
	for _, piece := range slowPiece.FindAllString(s, -1) {
		switch piece[0] {
		case ' ', '\t', '(':
		case '"':
			words = append(words, slowSaid.ReplaceAllString(piece[1:len(piece)-1], "$1"))
		default:
			words = append(words, piece)
		}
	}
	return strings.Join(words, " ")
}

// slowParse takes one address off the text by one expression, as often as it can.
func slowParse(s string) ([]Address, api.Errno) {
	if len(s) > 16384 {
		return nil, api.ErrLong
	}
	var l []Address
	rest := latin(s)
	for more := true; more; {
		found := slowAddress.FindStringSubmatch(rest)
		if found == nil {
			return nil, api.ErrForm
		}
		a := Address{Name: slowWords(found[3]), Local: found[1] + found[4], Domain: found[2] + found[5]}
		if !slowRight(a) {
			return nil, api.ErrForm
		}
		l = append(l, a)
		rest, more = rest[len(found[0]):], found[6] == ","
	}
	if len(l) > 64 {
		return nil, api.ErrLong
	}
	return l, api.OK
}

func slowMailbox(s string) (Address, api.Errno) {
	found := slowBare.FindStringSubmatch(latin(s))
	if found == nil || !slowRight(to(found[1], found[2])) {
		return Address{}, api.ErrForm
	}
	return to(found[1], found[2]), api.OK
}

// tells checks what a text tells, and against the slow way.
func tells(t *testing.T, s string, want ...Address) {
	t.Helper()
	if l, e := Parse(s); !slices.Equal(l, want) || e != api.OK {
		t.Errorf("%s: %s %d, not %s", brief(s), briefList(l), e, briefList(want))
	}
	if l, e := slowParse(s); !slices.Equal(l, want) || e != api.OK {
		t.Errorf("%s: slowly %s %d", brief(s), briefList(l), e)
	}
}

// refused checks that a text is refused so, and against the slow way.
func refused(t *testing.T, s string, want api.Errno) {
	t.Helper()
	if l, e := Parse(s); len(l) != 0 || e != want {
		t.Errorf("%s: %s %d, not %d", brief(s), briefList(l), e, want)
	}
	if _, e := slowParse(s); e != want {
		t.Errorf("%s: slowly %d, not %d", brief(s), e, want)
	}
}

// agrees checks a text, as a list's and as a mailbox's, against the slow ways alone, and answers whether it tells a list.
func agrees(t *testing.T, s string) bool {
	t.Helper()
	want, e := slowParse(s)
	if l, g := Parse(s); !slices.Equal(l, want) || g != e {
		t.Errorf("%s: %s %d, not %s %d", brief(s), briefList(l), g, briefList(want), e)
	}
	box, b := slowMailbox(s)
	if a, g := Mailbox(s); a != box || g != b {
		t.Errorf("%s: mailbox %v %d, not %v %d", brief(s), a, g, box, b)
	}
	return e == api.OK
}

// textsOf answers all texts of at most so many of the letters.
func textsOf(letters string, most int) []string {
	all := []string{""}
	from := 0
	for range most {
		till := len(all)
		for _, s := range all[from:till] {
			for i := range len(letters) {
				all = append(all, s+letters[i:i+1])
			}
		}
		from = till
	}
	return all
}

func TestTextsOf(t *testing.T) {
	if all := textsOf("ab", 3); len(all) != 15 || all[0] != "" || all[14] != "bbb" {
		t.Error(all)
	}
}
