package mailbox

import (
	"strings"
	"testing"
)

// names checks a text as a user's name and as a tag.
func names(t *testing.T, s string) {
	t.Helper()
	if got, want := User(s), userForm.MatchString(s); got != want {
		t.Errorf("User(%s): %v", brief(s), got)
	}
	if got, want := Tag(s), tagForm.MatchString(s); got != want {
		t.Errorf("Tag(%s): %v", brief(s), got)
	}
}

func TestNames(t *testing.T) {
	for _, s := range []string{"a", "z", "0", "9", "-", "--", "-a", "a-", "ann", "bob", "ann-2", "0-9", "abcdefghijklmnop", "qrstuvwxyz012345", "6789-6789-6789-6", "----------------"} {
		if !User(s) || !Tag(s) {
			t.Errorf("%q: %v %v", s, User(s), Tag(s))
		}
	}
	// Dots and more bytes are a tag's alone.
	for _, s := range []string{".", "..", ".a", "a.", "low.1", "a.b", "-.-", "1.2.3", "abcdefghijklmnopq", "abcdefghijklmnopqrstuvwxyz012345", "6789.-6789.-6789.-6789.-6789.-67", strings.Repeat(".", 32), strings.Repeat("-", 17)} {
		if User(s) || !Tag(s) {
			t.Errorf("%q: %v %v", s, User(s), Tag(s))
		}
	}
	for _, s := range []string{"", " ", "A", "Z", "Ann", "anN", "_", "a_b", "a/b", "/", "a b", "a ", " a", "a\x00", "a\n", "a\r\n", "a@b", "a,b", "a+b", "a:b", "`", "{", "abcdefghijklmnopqrstuvwxyz0123456", strings.Repeat(".", 33), "\xe9", "\u00e9", "\u0430", "\u0661", "\uff11", "\u212a", "\u2010", "\u00ad", "a\u0301"} {
		if User(s) || Tag(s) {
			t.Errorf("%q: %v %v", s, User(s), Tag(s))
		}
	}
}

func TestLengths(t *testing.T) {
	for size := range 300 {
		for _, letter := range "az09-.A/" {
			s := strings.Repeat(string(letter), size)
			names(t, s)
			if inside := letter != 'A' && letter != '/' && size > 0; User(s) != (inside && letter != '.' && size <= 16) || Tag(s) != (inside && size <= 32) {
				t.Errorf("%d of %c: %v %v", size, letter, User(s), Tag(s))
			}
		}
	}
	for _, size := range []int{511, 512, 4096 + 1, 4096 + 16, 65536, 65537, 65536 + 32, 1 << 20, 1<<20 + 1} {
		if User(x(size)) || Tag(x(size)) {
			t.Error(size)
		}
	}
}

// TestBytes: each byte alone, and ahead of, between and behind letters, up to the longest names.
func TestBytes(t *testing.T) {
	letters := "abcdefghijklmnopqrstuvwxyz0123456789-"
	for b := range 256 {
		one := string([]byte{byte(b)})
		inside := strings.Contains(letters, one)
		if User(one) != inside || Tag(one) != (inside || one == ".") {
			t.Errorf("%q: %v %v", one, User(one), Tag(one))
		}
		for _, size := range []int{2, 3, 15, 16, 17, 31, 32, 33} {
			for at := range size {
				names(t, x(at)+one+x(size-at-1))
				names(t, strings.Repeat(".", at)+one+strings.Repeat("-", size-at-1))
			}
		}
	}
}

func TestAllShortNames(t *testing.T) {
	bytes := "az09-./A \x00\xff"
	all := []string{""}
	for range 4 {
		var next []string
		for _, s := range all {
			names(t, s)
			for i := range len(bytes) {
				next = append(next, s+bytes[i:i+1])
			}
		}
		all = next
	}
}
