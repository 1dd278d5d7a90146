package base64

import (
	"strings"

	"mailguard/api"
)

// table: each byte's worth as a letter.
type table [256]byte

// none: the worth of a byte that is no letter.
const none = 64

func (t *table) build() {
	for c := range len(t) {
		t[c] = none
	}
	for worth := range len(letters) {
		t[letters[worth]] = byte(worth)
	}
}

func (t *table) decode(s string) (string, api.Errno) {
	if len(s)%4 != 0 {
		return "", api.ErrForm
	}
	// At most two are taken off: a third one is left among the letters, and is none of them.
	row := strings.TrimSuffix(strings.TrimSuffix(s, fill), fill)
	var told strings.Builder
	told.Grow(len(s) / 4 * 3)
	held, bits := uint32(0), 0
	for i := range len(row) {
		worth := t[row[i]]
		if worth == none {
			return "", api.ErrForm
		}
		held, bits = held<<6|uint32(worth), bits+6
		if bits >= 8 {
			bits -= 8
			told.WriteByte(byte(held >> bits))
			held &= 1<<bits - 1
		}
	}
	// What is left was filled up: with noughts, or the bytes have another row of letters.
	if held != 0 {
		return "", api.ErrForm
	}
	return told.String(), api.OK
}
