package command

import (
	"strconv"

	"mailguard/api"
)

// Print: a command's line.
func Print(c Cmd) (string, api.Errno) {
	line := lay(c)
	if told, e := Parse(line); e != api.OK || told != c {
		return "", api.ErrForm
	}
	return line, api.OK
}

// lay answers the only line that could be the command's; of what is none, it is a line of another one, or of none.
func lay(c Cmd) string {
	line := nameOf(c.Verb)
	switch {
	case c.Verb == Mail:
		return line + blank + from + open + c.Arg + shut + layParams(c)
	case c.Verb == Rcpt:
		return line + blank + to + open + c.Arg + shut
	case c.Arg != "":
		return line + blank + c.Arg
	}
	return line
}

func layParams(c Cmd) string {
	params := ""
	if c.Size > 0 {
		params += blank + size + equals + strconv.Itoa(c.Size)
	}
	if c.Eight {
		params += blank + body + equals + eightBit
	}
	return params
}
