package wal

import "mailguard/api"

// Change: of a key.
type Change struct {
	Key, Value string
	Gone       bool
}

// The first byte of a change's text.
const (
	stays = 0
	goes  = 1
)

// maxPart: how many bytes of a key, or of a value, the two bytes of its length tell.
const maxPart = 1<<16 - 1

// Print: changes' text.
func Print(l []Change) (string, api.Errno) {
	size := 0
	for _, c := range l {
		if len(c.Key) > maxPart || len(c.Value) > maxPart {
			return "", api.ErrLong
		}
		size += 5 + len(c.Key) + len(c.Value)
	}
	text := make([]byte, 0, size)
	for _, c := range l {
		first, value := byte(stays), c.Value
		if c.Gone {
			first, value = goes, ""
		}
		text = append(text, first)
		text = appendNumber(text, uint64(len(c.Key)), 2)
		text = appendNumber(text, uint64(len(value)), 2)
		text = append(text, c.Key...)
		text = append(text, value...)
	}
	return string(text), api.OK
}

// Parse: and back.
func Parse(s string) ([]Change, api.Errno) {
	ok := true
	take := func(count int) string {
		if count > len(s) {
			ok, s = false, ""
			return ""
		}
		taken := s[:count]
		s = s[count:]
		return taken
	}
	var l []Change
	for s != "" {
		first := take(1)[0]
		keySize, valueSize := number(take(2)), number(take(2))
		c := Change{Key: take(int(keySize)), Value: take(int(valueSize)), Gone: first == goes}
		if !ok || first > goes || c.Gone && c.Value != "" {
			return nil, api.ErrForm
		}
		l = append(l, c)
	}
	return l, api.OK
}

// appendNumber lays a number behind a text, in so many bytes, the highest first.
func appendNumber(text []byte, n uint64, bytes int) []byte {
	for at := bytes - 1; at >= 0; at-- {
		text = append(text, byte(n>>(8*at)))
	}
	return text
}

// number tells what at most four bytes say, the highest first.
func number(bytes string) uint32 {
	n := uint32(0)
	for i := range len(bytes) {
		n = n<<8 | uint32(bytes[i])
	}
	return n
}
