package addr

import (
	"strings"

	"mailguard/api"
)

// Parse: and back.
func Parse(s string) ([]Address, api.Errno) {
	if len(s) > api.MaxMessage {
		return nil, api.ErrLong
	}
	l, ok := readList(s)
	if !ok {
		return nil, api.ErrForm
	}
	// Counted behind the last one: a fault in any goes ahead of too many.
	if len(l) > mostAddresses {
		return nil, api.ErrLong
	}
	return l, api.OK
}

func readList(s string) ([]Address, bool) {
	var l []Address
	for {
		a, rest, ok := readAddress(skip(s))
		if !ok || !Right(a) {
			return nil, false
		}
		l = append(l, apart(a))
		rest = skip(rest)
		if rest == "" {
			return l, true
		}
		if s, ok = strings.CutPrefix(rest, comma); !ok {
			return nil, false
		}
	}
}

// skip cuts off the blanks, tabs and comments that a text begins with. (A comment that isn't ended, or has one within it, stays: nothing that is read begins so.)
func skip(s string) string {
	for s != "" {
		switch s[0] {
		case ' ', '\t':
			s = s[1:]
		case '(':
			behind := strings.IndexAny(s[1:], "()") + 1
			if behind == 0 || s[behind] == '(' {
				return s
			}
			s = s[behind+1:]
		default:
			return s
		}
	}
	return s
}

// readAddress reads the address that a text begins with, right or not, and answers what stands behind it.
func readAddress(s string) (a Address, rest string, ok bool) {
	if a, rest, ok = readBare(s); ok {
		return a, rest, true
	}
	name, rest, ok := readName(s)
	if !ok {
		return Address{}, "", false
	}
	if rest, ok = strings.CutPrefix(rest, open); !ok {
		return Address{}, "", false
	}
	if a, rest, ok = readBare(skip(rest)); !ok {
		return Address{}, "", false
	}
	a.Name = name
	rest, ok = strings.CutPrefix(skip(rest), shut)
	return a, rest, ok
}

// readBare reads a local part, @ and a domain.
func readBare(s string) (a Address, rest string, ok bool) {
	local, rest := cutRun(s, orDot(inAtom))
	if rest, ok = strings.CutPrefix(rest, at); !ok {
		return Address{}, "", false
	}
	domain, rest := cutRun(rest, orDot(inDomain))
	return Address{Local: local, Domain: domain}, rest, true
}

func orDot(of func(c byte) bool) func(c byte) bool {
	return func(c byte) bool { return c == dot[0] || of(c) }
}

// readName reads words, as many as there are, with what stands between and behind them.
func readName(s string) (name, rest string, ok bool) {
	var words []string
	for {
		word, rest, ok := readWord(s)
		if !ok {
			return strings.Join(words, blank), s, len(words) > 0
		}
		words = append(words, word)
		s = skip(rest)
	}
}

func readWord(s string) (word, rest string, ok bool) {
	if behind, ok := strings.CutPrefix(s, string(quote)); ok {
		return readQuoted(behind)
	}
	word, rest = cutRun(s, inAtom)
	return word, rest, word != ""
}

// readQuoted reads a word behind its first quote, till behind its last one.
func readQuoted(s string) (word, rest string, ok bool) {
	var heard strings.Builder
	hear := hearer(&heard)
	for i := range len(s) {
		if !hear(s[i]) {
			return heard.String(), s[i+1:], true
		}
	}
	return "", "", false
}

// hearer answers what hears a byte between quotes, and tells whether it isn't the quote that ends the word.
func hearer(heard *strings.Builder) func(c byte) bool {
	saysNext := false
	return func(c byte) bool {
		switch {
		case saysNext:
			saysNext = false
		case c == backslash:
			saysNext = true
			return true
		case c == quote:
			return false
		}
		heard.WriteByte(c)
		return true
	}
}
