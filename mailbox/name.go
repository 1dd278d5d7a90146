package mailbox

import "mailguard/api"

// maxTag: bytes of a tag.
const maxTag = 32

// User: is a text a user's name?
func User(s string) bool { return len(s) <= api.MaxName && ofLetters(s, false) }

// Tag: is a text a tag?
func Tag(s string) bool { return len(s) <= maxTag && ofLetters(s, true) }

// ofLetters: are there bytes in a text, all of them out of a to z, 0 to 9 and -, or the dot, if that may be there?
func ofLetters(s string, dots bool) bool {
	for i := range len(s) {
		b := s[i]
		if !('a' <= b && b <= 'z' || '0' <= b && b <= '9' || b == '-' || dots && b == '.') {
			return false
		}
	}
	return s != ""
}
