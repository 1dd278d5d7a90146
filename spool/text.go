package spool

import (
	"mailguard/api"
	"mailguard/retry"
)

// How many bytes tell a length, and a number of a turn.
const (
	lengthSize = 2
	numberSize = 8
)

// Print: an item's text.
func Print(x Item) (string, api.Errno) {
	if !Right(x) {
		return "", api.ErrRange
	}
	text := make([]byte, 0, 3*(lengthSize+numberSize)+len(x.From)+len(x.To)+len(x.Text))
	for _, part := range []string{x.From, x.To, x.Text} {
		text = appendNumber(text, len(part), lengthSize)
		text = append(text, part...)
	}
	for _, n := range []int{x.Turn.Born, x.Turn.Tries, x.Turn.Due} {
		text = appendNumber(text, n, numberSize)
	}
	return string(text), api.OK
}

// Parse: and back.
func Parse(id int, s string) (Item, api.Errno) {
	whole := true
	take := func(count int) string {
		if count > len(s) {
			whole, s = false, ""
			return ""
		}
		taken := s[:count]
		s = s[count:]
		return taken
	}
	takeNumber := func() int { return number(take(numberSize)) }
	takePart := func() string { return take(number(take(lengthSize))) }
	x := Item{Id: id, From: takePart(), To: takePart(), Text: takePart()}
	x.Turn = retry.Turn{Born: takeNumber(), Tries: takeNumber(), Due: takeNumber()}
	// Items have their numbers from 1 on.
	if !whole || s != "" || id < 1 || !Right(x) {
		return Item{}, api.ErrForm
	}
	return x, api.OK
}

// appendNumber lays a number behind a text, in so many bytes, the highest first.
func appendNumber(text []byte, n, bytes int) []byte {
	for at := bytes - 1; at >= 0; at-- {
		text = append(text, byte(n>>(8*at)))
	}
	return text
}

// number tells what at most eight bytes say, the highest first. What is too large for an int is below 0, so that no turn of it is right.
func number(bytes string) int {
	n := 0
	for i := range len(bytes) {
		n = n<<8 | int(bytes[i])
	}
	return n
}
