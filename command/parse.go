package command

import (
	"strconv"
	"strings"

	"mailguard/addr"
	"mailguard/api"
)

const (
	// mostDigits: of a size.
	mostDigits = 9
	// mostWord: bytes of what VRFY asks for.
	mostWord = 64
)

// Parse: a command line.
func Parse(line string) (Cmd, api.Errno) {
	name, _ := taker(line)(blank)
	verb := numbers()[capitals(name)]
	if verb == 0 {
		return Cmd{}, api.ErrKind
	}
	c, ok := readArg(verb, strings.Trim(line[len(name):], blank))
	if !ok {
		return Cmd{}, api.ErrForm
	}
	c.Verb = verb
	// A piece would keep the whole line.
	c.Arg = strings.Clone(c.Arg)
	return c, api.OK
}

// take takes a word off a text: what stands ahead of the next such mark, which goes too, or, if there is none, all that is left. Behind that it answers false: nothing is left, not even an empty word.
type take func(mark string) (word string, ok bool)

func taker(s string) take {
	left := true
	return func(mark string) (word string, ok bool) {
		ok = left
		word, s, left = strings.Cut(s, mark)
		return word, ok
	}
}

// readArg reads what stands behind a verb into a command, but for the verb itself.
func readArg(verb int, arg string) (Cmd, bool) {
	switch verb {
	case Helo, Ehlo:
		return Cmd{Arg: arg}, isDomain(arg)
	case Mail:
		return readMail(taker(arg))
	case Rcpt:
		return readRcpt(taker(arg))
	case Noop:
		return Cmd{Arg: arg}, true
	case Vrfy:
		return Cmd{Arg: arg}, arg != "" && len(arg) <= mostWord && isAll(arg, '!', '~')
	default:
		return Cmd{}, arg == ""
	}
}

// isDomain: is a text a domain, but that it may have capitals?
func isDomain(s string) bool {
	return addr.Right(addr.Address{Local: "a", Domain: smalls(s)})
}

func isMailbox(s string) bool {
	_, e := addr.Mailbox(s)
	return e == api.OK
}

func readMail(t take) (c Cmd, ok bool) {
	c.Arg, ok = t.path(from)
	if !ok || c.Arg != "" && !isMailbox(c.Arg) {
		return Cmd{}, false
	}
	c.Size, c.Eight, ok = readParams(t)
	return c, ok
}

func readRcpt(t take) (Cmd, bool) {
	box, ok := t.path(to)
	_, more := t(blank)
	return Cmd{Arg: box}, ok && !more && isMailbox(box)
}

// path takes off that key, and answers what stands between < and > behind it. Where no > stands, there is nothing left behind it, not even an empty word.
func (t take) path(key string) (box string, ok bool) {
	said, _ := t(open)
	box, _ = t(shut)
	between, ok := t(blank)
	return box, ok && capitals(said) == key && between == ""
}

// readParams reads what stands behind a path, each with a blank ahead.
func readParams(t take) (count int, eight, ok bool) {
	var digits, coding string
	for word, more := t(blank); more; word, more = t(blank) {
		key, value, _ := strings.Cut(capitals(word), equals)
		switch {
		case key == size && digits == "" && isSize(value):
			digits = value
		case key == body && coding == "" && (value == sevenBit || value == eightBit):
			coding = value
		default:
			return 0, false, false
		}
	}
	// Of no digits it answers 0, as they say it here; its error is of these alone.
	count, _ = strconv.Atoi(digits)
	return count, coding == eightBit, true
}

func isSize(s string) bool {
	return s != "" && len(s) <= mostDigits && isAll(s, '0', '9')
}
