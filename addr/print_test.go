package addr

import (
	"math/rand"
	"slices"
	"strings"
	"testing"

	"mailguard/api"
)

// prints checks a list's text, and against the slow way.
func prints(t *testing.T, l []Address, want string, e api.Errno) {
	t.Helper()
	if s, g := Print(l); s != want || g != e {
		t.Errorf("%s: %s %d, not %s %d", briefList(l), brief(s), g, brief(want), e)
	}
	if s, g := slowPrint(l); s != want || g != e {
		t.Errorf("%s: slowly %s %d, not %s %d", briefList(l), brief(s), g, brief(want), e)
	}
}

func TestPrint(t *testing.T) {
	prints(t, []Address{to("a", "b")}, "a@b", api.OK)
	prints(t, []Address{to("a.b", "c.d"), to("x", "y")}, "a.b@c.d, x@y", api.OK)
	prints(t, []Address{{"Ann", "a.b", "c.d"}, to("x", "y"), {"Bob C", "b", "c"}}, "Ann <a.b@c.d>, x@y, Bob C <b@c>", api.OK)
	prints(t, []Address{{"A. B", "a", "b"}, to("c", "d")}, "\"A. B\" <a@b>, c@d", api.OK)
	prints(t, []Address{named("a"), named("a"), named("")}, "a <a@b>, a <a@b>, a@b", api.OK)
	prints(t, []Address{to(x(64), x(64)), {x(64), x(64), x(64)}}, x(64)+"@"+x(64)+", "+x(64)+" <"+x(64)+"@"+x(64)+">", api.OK)
	prints(t, []Address{to("-", "-"), to("`", "9")}, "-@-, `@9", api.OK)
}

func TestPrintOfNames(t *testing.T) {
	for name, want := range map[string]string{
		// Atoms with single blanks between stand as themselves.
		"a": "a", "Ann B": "Ann B", "a b c": "a b c", "!#$%&'*+-/=?^_{|}~`": "!#$%&'*+-/=?^_{|}~`", "` -": "` -", x(64): x(64), x(31) + " " + x(32): x(31) + " " + x(32),
		// All others are quoted.
		"a  b": `"a  b"`, "a b  c": `"a b  c"`, "a   b": `"a   b"`, "a.b": `"a.b"`, ".": `"."`, "A. B": `"A. B"`, "a,": `"a,"`, "<a>": `"<a>"`, "(x)": `"(x)"`, "a@b": `"a@b"`, "a:b": `"a:b"`, "[x]": `"[x]"`, ";": `";"`, x(63) + ".": `"` + x(63) + `."`,
		// A backslash stands ahead of each quote and backslash.
		`"`: `"\""`, `\`: `"\\"`, `""`: `"\"\""`, `\\`: `"\\\\"`, `"a"`: `"\"a\""`, `"a`: `"\"a"`, `a"`: `"a\""`, `a"b`: `"a\"b"`, `a\b`: `"a\\b"`, `\"`: `"\\\""`, `a\"b`: `"a\\\"b"`, `a "b" c`: `"a \"b\" c"`,
		strings.Repeat(`"`, 64): `"` + strings.Repeat(`\"`, 64) + `"`, strings.Repeat(`\`, 64): `"` + strings.Repeat(`\\`, 64) + `"`,
	} {
		prints(t, []Address{named(name)}, want+" <a@b>", api.OK)
		prints(t, []Address{named(name), to("c", "d"), named(name)}, want+" <a@b>, c@d, "+want+" <a@b>", api.OK)
	}
}

func TestPrintOfEachByte(t *testing.T) {
	for c := range 256 {
		b := one(c)
		said := b
		if b == `"` || b == `\` {
			said = `\` + b
		}
		quoted := func(s string) string { return `"` + strings.ReplaceAll(s, b, said) + `" <a@b>` }
		for _, name := range []string{b, "A" + b, b + "A", "A" + b + "B", b + b, "A " + b + " B", "A  B" + b} {
			switch {
			case c < 32 || c > 126 || strings.Trim(name, " ") != name:
				prints(t, []Address{named(name)}, "", api.ErrForm)
			case strings.Contains(name, "  ") || c != 32 && !strings.Contains(atomBytes, b):
				prints(t, []Address{named(name)}, quoted(name), api.OK)
			default:
				prints(t, []Address{named(name)}, name+" <a@b>", api.OK)
			}
		}
	}
}

func TestPrintOfManyAddresses(t *testing.T) {
	for _, count := range []int{1, 2, 63, 64} {
		prints(t, slices.Repeat([]Address{to("a", "b")}, count), strings.TrimSuffix(strings.Repeat("a@b, ", count), ", "), api.OK)
		prints(t, slices.Repeat([]Address{named("A. B")}, count), strings.TrimSuffix(strings.Repeat("\"A. B\" <a@b>, ", count), ", "), api.OK)
	}
	for _, count := range []int{65, 66, 128, 1000, 1 << 16} {
		prints(t, slices.Repeat([]Address{to("a", "b")}, count), "", api.ErrLong)
	}
	prints(t, nil, "", api.ErrForm)
	prints(t, []Address{}, "", api.ErrForm)
	// The longest text that may be is longer than what is parsed; it is printed all the same.
	longest := Address{strings.Repeat(`"`, 64), x(64), x(64)}
	text := `"` + strings.Repeat(`\"`, 64) + `" <` + x(64) + "@" + x(64) + ">"
	prints(t, slices.Repeat([]Address{longest}, 64), strings.TrimSuffix(strings.Repeat(text+", ", 64), ", "), api.OK)
}

// TestPrintOfWrongAddresses: wherever one stands, also among too many.
func TestPrintOfWrongAddresses(t *testing.T) {
	good := to("a", "b")
	for _, wrong := range wrongAddresses() {
		for _, l := range [][]Address{{wrong}, {good, wrong}, {wrong, good}, {good, wrong, good}, {wrong, wrong}, append(slices.Repeat([]Address{good}, 64), wrong), append([]Address{wrong}, slices.Repeat([]Address{good}, 64)...), append(slices.Repeat([]Address{good}, 70), wrong), slices.Repeat([]Address{wrong}, 65)} {
			prints(t, l, "", api.ErrForm)
		}
	}
}

// anyPart answers a text of the letters, of at most so many.
func anyPart(r *rand.Rand, letters string, most int) string {
	s := make([]byte, r.Intn(most+1))
	for i := range s {
		s[i] = letters[r.Intn(len(letters))]
	}
	return string(s)
}

// anyAddress answers a right address, of parts of all lengths.
func anyAddress(r *rand.Rand) Address {
	most := []int{4, 12, 66}[r.Intn(3)]
	for {
		a := Address{Local: anyPart(r, atomBytes+"aA.....", most), Domain: anyPart(r, domainBytes+"...", most)}
		switch r.Intn(4) {
		case 0:
			a.Name = anyPart(r, atomBytes+strings.Repeat(" ", 20), most)
		case 1:
			a.Name = anyPart(r, "ab \"\\.,<>()@:;[]", most)
		case 2:
			for c := range []byte(strings.Repeat("n", r.Intn(most+1))) {
				a.Name += one(32 + (c*7+r.Intn(95))%95)
			}
		}
		if slowRight(a) {
			return a
		}
	}
}

func TestPrintOfAnyAddresses(t *testing.T) {
	r := rand.New(rand.NewSource(20))
	for range 4000 {
		l := make([]Address, r.Intn(6))
		for i := range l {
			l[i] = anyAddress(r)
			switch r.Intn(60) {
			case 0:
				l[i].Name += one(r.Intn(256))
			case 1:
				l[i].Local += one(r.Intn(256))
			case 2:
				l[i].Domain += one(r.Intn(256))
			}
		}
		want, e := slowPrint(l)
		prints(t, l, want, e)
	}
}

// TestListsAreTheCallers: they aren't changed, nor is the room behind them.
func TestListsAreTheCallers(t *testing.T) {
	l := []Address{named("a.b"), to("c", "d"), named("\"")}
	was := slices.Clone(l)
	Print(l[:1])
	Print(l[:2])
	Right(l[0])
	if !slices.Equal(l, was) {
		t.Error(briefList(l))
	}
}
