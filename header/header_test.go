package header

import (
	"slices"
	"strings"
	"testing"

	"mailguard/api"
)

func isRight(t *testing.T, f api.Field, want bool) {
	t.Helper()
	if Right(f) != want || slowRight(f) != want {
		t.Errorf("%s: %s: %v, slowly %v, not %v", brief(f.Name), brief(f.Body), Right(f), slowRight(f), want)
	}
}

func TestRight(t *testing.T) {
	for _, f := range []api.Field{
		{Name: "Subject", Body: "hello world"}, {Name: "A"}, {Name: "A", Body: "b"}, {Name: "!", Body: "x"}, {Name: "~", Body: "x"}, {Name: "!~", Body: "x"},
		{Name: x(63)}, {Name: x(64)}, {Name: strings.Repeat("~", 64), Body: "x"}, {Name: strings.Repeat("!", 64), Body: "x"},
		{Name: "9;", Body: ":"}, {Name: "A", Body: "a: b"}, {Name: "A", Body: ":"}, {Name: "A", Body: "a \t b"}, {Name: "A", Body: "a\tb"}, {Name: "A", Body: "a" + blanksOf(3000) + "b"},
		{Name: "A", Body: "\x01"}, {Name: "A", Body: "\x0b\x0c"}, {Name: "A", Body: "\x7f"}, {Name: "A", Body: "\xff"}, {Name: "A", Body: "\xc3\xa9"}, {Name: "A", Body: "\xc2\xa0"}, {Name: "A", Body: x(5000)},
		{Name: "A", Body: "\xe2\x80\x83a\xe2\x80\x83"}, {Name: "A", Body: "\x80 \x80"},
	} {
		isRight(t, f, true)
	}
	for _, f := range []api.Field{
		{}, {Body: "b"}, {Name: x(65)}, {Name: x(65), Body: "b"}, {Name: x(128)}, {Name: x(5000)},
		{Name: ":"}, {Name: "A:"}, {Name: ":A"}, {Name: "A:B", Body: "b"}, {Name: x(63) + ":"}, {Name: ":" + x(63)}, {Name: " "}, {Name: "A "}, {Name: " A"}, {Name: "A B"}, {Name: "A\tB"}, {Name: "\tA"}, {Name: "A\r\n"}, {Name: "A\x00"}, {Name: "\x7f"}, {Name: "A\x7f"}, {Name: "\x80"}, {Name: "\xff"}, {Name: "\xc3\xa9"}, {Name: "A\xef\xbf\xbd"},
		{Name: "A", Body: " "}, {Name: "A", Body: "\t"}, {Name: "A", Body: " b"}, {Name: "A", Body: "b "}, {Name: "A", Body: "\tb"}, {Name: "A", Body: "b\t"}, {Name: "A", Body: " \t "}, {Name: "A", Body: x(5000) + " "}, {Name: "A", Body: "\t" + x(5000)},
		{Name: "A", Body: "\x00"}, {Name: "A", Body: "\r"}, {Name: "A", Body: "\n"}, {Name: "A", Body: "\r\n"}, {Name: "A", Body: "a\x00b"}, {Name: "A", Body: "a\rb"}, {Name: "A", Body: "a\nb"}, {Name: "A", Body: "a\r\n b"}, {Name: "A", Body: "b\x00"}, {Name: "A", Body: "b\r"}, {Name: "A", Body: "b\n"}, {Name: "A", Body: "\x00b"}, {Name: "A", Body: "\rb"}, {Name: "A", Body: "\nb"}, {Name: "A", Body: x(5000) + "\x00" + x(5000)}, {Name: "A", Body: "\xff\n"},
		{Name: "A:", Body: " b"},
	} {
		isRight(t, f, false)
	}
}

func TestRightOfEachByte(t *testing.T) {
	for c := range 256 {
		name := c >= 33 && c <= 126 && c != 58
		for _, s := range []string{one(c), "a" + one(c), one(c) + "a", "a" + one(c) + "b", one(c) + one(c), x(63) + one(c), one(c) + x(63), x(30) + one(c) + x(30)} {
			isRight(t, api.Field{Name: s}, name)
			isRight(t, api.Field{Name: s, Body: "b"}, name)
			isRight(t, api.Field{Name: s, Body: "b "}, false)
		}
		isRight(t, api.Field{Name: x(64) + one(c)}, false)
		within := c != 0 && c != 10 && c != 13
		atEnds := within && c != 32 && c != 9
		for _, s := range []string{one(c), "a" + one(c), one(c) + "a", one(c) + one(c), x(100) + one(c), one(c) + x(100), one(c) + " a", "a\t" + one(c)} {
			isRight(t, api.Field{Name: "A", Body: s}, atEnds)
		}
		for _, s := range []string{"a" + one(c) + "b", "a" + one(c) + one(c) + "b", x(100) + one(c) + x(100), "\xff" + one(c) + "\xff"} {
			isRight(t, api.Field{Name: "A", Body: s}, within)
		}
	}
}

func TestSame(t *testing.T) {
	for _, both := range [][2]string{{"", ""}, {"a", "a"}, {"a", "A"}, {"Subject", "sUBJECT"}, {"Content-Type", "CONTENT-TYPE"}, {"Z-1", "z-1"}, {"abcdefghijklmnopqrstuvwxyz", "ABCDEFGHIJKLMNOPQRSTUVWXYZ"}, {x(64), strings.Repeat("X", 64)}, {x(5000), strings.Repeat("X", 5000)}, {"\xff", "\xff"}, {"\xc3\xa9", "\xc3\xa9"}, {"a\x00B", "A\x00b"}, {"!~", "!~"}} {
		if !Same(both[0], both[1]) || !Same(both[1], both[0]) {
			t.Errorf("%s and %s aren't the same", brief(both[0]), brief(both[1]))
		}
	}
	for _, both := range [][2]string{{"", "a"}, {"a", "ab"}, {"ab", "b"}, {"a", "aa"}, {"a", "b"}, {"[", "{"}, {"@", "`"}, {"\\", "|"}, {"]", "}"}, {"^", "~"}, {"_", "\x7f"}, {"-", "\r"}, {"1", "\x11"}, {"a", "a "}, {"a", " a"}, {"a", "a\x00"}, {"Subject", "Subjekt"}, {"k", "\u212a"}, {"K", "\u212a"}, {"s", "\u017f"}, {"\xc3\xa9", "\xc3\x89"}, {"\xe9", "\xc9"}, {"\xff", "\xdf"}, {"\xff", "\xfe"}, {"\xff", "\xef\xbf\xbd"}, {"\xc1", "A"}, {"\xe1", "a"}, {x(63), x(64)}, {x(63) + "a", x(63) + "b"}, {"a" + x(63), "b" + x(63)}} {
		if Same(both[0], both[1]) || Same(both[1], both[0]) {
			t.Errorf("%s and %s are the same", brief(both[0]), brief(both[1]))
		}
	}
}

func TestSameOfEachTwoBytes(t *testing.T) {
	for a := range 256 {
		for b := range 256 {
			want := slowSame(one(a), one(b))
			for _, both := range [][2]string{{one(a), one(b)}, {"a" + one(a), "A" + one(b)}, {one(a) + "Z", one(b) + "z"}} {
				if Same(both[0], both[1]) != want {
					t.Errorf("%q and %q: %v", both[0], both[1], !want)
				}
			}
		}
	}
}

func gets(t *testing.T, l []api.Field, name, want string, found bool) {
	t.Helper()
	if body, ok := Get(l, name); body != want || ok != found {
		t.Errorf("%s of %s: %s %v, not %s %v", brief(name), briefFields(l), brief(body), ok, brief(want), found)
	}
}

func TestGet(t *testing.T) {
	l := []api.Field{{Name: "From", Body: "a"}, {Name: "to", Body: "1"}, {Name: "TO", Body: "2"}, {Name: "Empty"}, {Name: "empty", Body: "full"}, {Name: "To", Body: "3"}, {Name: "last", Body: "z"}}
	for name, want := range map[string]string{"From": "a", "FROM": "a", "from": "a", "to": "1", "TO": "1", "To": "1", "tO": "1", "Empty": "", "empty": "", "EMPTY": "", "Last": "z"} {
		gets(t, l, name, want, true)
	}
	for _, name := range []string{"", "x", "T", "Too", "To ", " To", "To:", "Fro", "rom", "t\xef\xbd\x8f", "a", "1"} {
		gets(t, l, name, "", false)
		gets(t, nil, name, "", false)
		gets(t, []api.Field{}, name, "", false)
	}
	// Letters beyond A to Z, and bytes that are of no letter, are but themselves.
	other := []api.Field{{Name: "\u212a", Body: "1"}, {Name: "\u017f", Body: "2"}, {Name: "\xc3\x89", Body: "3"}, {Name: "\xfe", Body: "4"}}
	for _, name := range []string{"k", "K", "s", "S", "\xc3\xa9", "\xff", "\xef\xbf\xbd"} {
		gets(t, other, name, "", false)
		gets(t, append(other, api.Field{Name: name, Body: "5"}), name, "5", true)
	}
	// Also among fields that aren't right.
	wrong := []api.Field{{Name: "a:", Body: " b\r\n"}, {Body: "\x00"}, {Name: "A:", Body: "c"}, {Name: "A\xff", Body: "d"}}
	gets(t, wrong, "A:", " b\r\n", true)
	gets(t, wrong, "", "\x00", true)
	gets(t, wrong, "a\xff", "d", true)
	gets(t, wrong, "a", "", false)
}

func TestGetIsTheFirstThatIsTheSame(t *testing.T) {
	names := []string{"a", "A", "b", "B", "ab", "Ab", "AB", "[", "{", ""}
	for i, first := range names {
		for k, second := range names {
			l := []api.Field{{Name: first, Body: "1"}, {Name: second, Body: "2"}, {Name: names[(i+k)%len(names)], Body: "3"}}
			for _, name := range names {
				at := slices.IndexFunc(l, func(f api.Field) bool { return slowSame(f.Name, name) })
				if at < 0 {
					gets(t, l, name, "", false)
				} else {
					gets(t, l, name, l[at].Body, true)
				}
			}
		}
	}
}
