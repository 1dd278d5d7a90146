package ctype

import (
	"slices"
	"strings"
	"testing"

	"mailguard/api"
)

const tokenBytes = "abcdefghijklmnopqrstuvwxyz0123456789!#$&-^_.+"

func isRight(t *testing.T, a api.Type, want bool) {
	t.Helper()
	if Right(a) != want || slowRight(a) != want {
		t.Errorf("%s: %v, slowly %v, not %v", briefType(a), Right(a), slowRight(a), want)
	}
}

func rightTokens() []string {
	return []string{"a", "z", "0", "9", "-", ".", "+", "text", "octet-stream", "vnd.a.b-c+d", "x-y", "..", "-.-", "!#$&-^_.+", "^", "_", tokenBytes, x(63), x(64), strings.Repeat(".", 64), strings.Repeat("9", 64)}
}

func wrongTokens() []string {
	return []string{"", "A", "Z", "Text", "texT", "teXt", "TEXT", x(65), x(64) + ".", x(63) + "A", x(63) + "=b", "A" + x(63), x(66), x(1000), x(20000), " ", "a b", " a", "a ", "\t", "a\tb", "a\r\n", "a/b", "/", "a;", ";", "a=b", "=", "\"", "\"a\"", "a\"", "\\", "a\\b", "(x)", "a(x)", "a*b", "a'b", "%", "a@b", "a,b", "a:b", "<a>", "[a]", "a?", "a|b", "{a}", "a~", "`", "\x00", "a\x00", "\x1f", "\x7f", "\x80", "\xff", "\xc3\xa9", "caf\xc3\xa9", "\xef\xbf\xbd", "\u212a"}
}

func rightValues() []string {
	return append(rightTokens(), "", " ", "  ", strings.Repeat(" ", 70), " a", "a ", "a b", "a  b", "UP", "Up", "A", "\"", "\\", "\"\"", "\\\\", "\\\"", "\"\\", "a\"b", "a\\b", "\"a\"", "a\\", "\\a", "a; b=c", ";", "=", "a=b", "/", "a/b", "(x)", "a@b", "~", "!~", "'", "%20", "a\\\"b", x(65), x(66), x(69), x(70), strings.Repeat("\"", 70), strings.Repeat("\\", 70), strings.Repeat("~", 70), strings.Repeat(".", 65), strings.Repeat("A", 64), x(63)+" ", " !\"#$%&'()*+,-./0123456789:;<=>?@ABCDEFGHIJKLMNO", "PQRSTUVWXYZ[\\]^_`abcdefghijklmnopqrstuvwxyz{|}~")
}

func wrongValues() []string {
	return []string{x(71), x(72), x(70) + " ", " " + x(70), strings.Repeat(" ", 71), strings.Repeat("\"", 71), strings.Repeat("\\", 71), x(1000), x(20000), "\t", "a\tb", "\r", "\n", "\r\n", "a\r\n b", "\x00", "a\x00", "\x00a", "\x01", "\x1f", "\x7f", "a\x7fb", "\x80", "\xff", "\xc3\xa9", "caf\xc3\xa9", "\xc2\xa0", "\xef\xbf\xbd", x(69) + "\x7f", "\x1f" + x(69)}
}

func TestRight(t *testing.T) {
	isRight(t, of("text", "plain"), true)
	isRight(t, api.Type{Main: "text", Sub: "plain", Params: []api.Param{}}, true)
	for _, s := range rightTokens() {
		isRight(t, of(s, "b"), true)
		isRight(t, of("a", s), true)
		isRight(t, of(s, s, s, s), true)
		isRight(t, with(s, ""), true)
		isRight(t, with("k", "v", s, "w"), true)
		// Of the Value of another, too.
		isRight(t, with("k", s, s, "v"), true)
	}
	for _, s := range rightValues() {
		isRight(t, with("k", s), true)
		isRight(t, with("k", s, "l", s, "m", s), true)
	}
	for count := range 9 {
		isRight(t, many(count, ""), true)
		isRight(t, many(count, x(70)), true)
	}
}

// wrongTypes: of each but one thing is wrong, but of the last ones.
func wrongTypes() []api.Type {
	var all []api.Type
	for _, s := range wrongTokens() {
		all = append(all, of(s, "b"), of("a", s), of(s, "b", "k", "v"), with(s, ""), with("k", "v", s, "v"), with(s, "v", "k", "v"), with("k", "v", s, "v", "l", "v"))
	}
	for _, s := range wrongValues() {
		all = append(all, with("k", s), with("k", "v", "l", s), with("k", s, "l", "v"), with("k", "v", "l", s, "m", "v"))
	}
	for _, s := range rightTokens() {
		all = append(all, with(s, "v", s, "v"), with(s, "v", s, ""), with(s, "v", "k", "v", s, "w"), with("k", "v", s, "v", s, "w"))
	}
	for i := range 8 {
		for k := range i {
			twice := many(8, "v")
			twice.Params[i].Name = twice.Params[k].Name
			all = append(all, twice)
		}
	}
	for _, count := range []int{9, 10, 16, 1000} {
		all = append(all, many(count, ""), many(count, "v"))
	}
	return append(all, api.Type{}, api.Type{Main: "text"}, api.Type{Sub: "plain"}, api.Type{Params: []api.Param{{Name: "k", Value: "v"}}}, with("k", "v", "k", "v"), of("", "", "", ""), of("A", "B", "C", "\x00"), api.Type{Main: "a", Sub: "b", Params: make([]api.Param, 1)}, api.Type{Main: "a", Sub: "b", Params: make([]api.Param, 1<<20)})
}

func TestRightOfWrongOnes(t *testing.T) {
	for _, a := range wrongTypes() {
		isRight(t, a, false)
	}
}

func TestRightOfEachByte(t *testing.T) {
	for c := range 256 {
		inToken := strings.Contains(tokenBytes, one(c))
		for _, s := range []string{one(c), "a" + one(c), one(c) + "a", "a" + one(c) + "b", one(c) + one(c), x(63) + one(c), one(c) + x(63), x(31) + one(c) + x(32)} {
			isRight(t, of(s, "b"), inToken)
			isRight(t, of("a", s), inToken)
			isRight(t, with(s, "v"), inToken)
			isRight(t, with("k", "v", s, "v"), inToken && s != "k")
			isRight(t, with("k", s), c >= 32 && c <= 126)
			isRight(t, with("k", x(6)+s), c >= 32 && c <= 126)
		}
		isRight(t, with("k", x(69)+one(c)), c >= 32 && c <= 126)
		isRight(t, with("k", one(c)+x(69)), c >= 32 && c <= 126)
		for _, s := range []string{x(64) + one(c), one(c) + x(64)} {
			isRight(t, of(s, "b"), false)
			isRight(t, of("a", s), false)
			isRight(t, with(s, "v"), false)
		}
		isRight(t, with("k", x(70)+one(c)), false)
		isRight(t, with("k", one(c)+x(70)), false)
	}
}

// unlike: types that aren't the same, in pairs and any two of them.
func unlike() []api.Type {
	return []api.Type{
		{}, {Main: "a"}, {Sub: "b"}, {Sub: "a"}, {Main: "b"}, of("a", "b"), of("b", "a"), of("a", "a"), of("A", "b"), of("a", "B"), of("a ", "b"), of("a", " b"), of("ab", ""), of("", "ab"), of("a/b", ""), of("a\xff", "b"), of("a\xfe", "b"), of("a\xef\xbf\xbd", "b"),
		with("k", "v"), with("K", "v"), with("k", "V"), with("k", ""), with("", "v"), with("", ""), with("kv", ""), with("", "kv"), with("v", "k"), with("k", "v "), with("k ", "v"), with("k", "\x00"), with("k", "\xff"), with("k", "\xef\xbf\xbd"), of("b", "a", "k", "v"), of("", "", "k", "v"),
		with("k", "v", "l", "w"), with("l", "w", "k", "v"), with("k", "w", "l", "v"), with("k", "v", "l", ""), with("k", "v", "k", "v"), with("k", "v", "", ""), with("", "", "k", "v"), with("k", "v", "l", "w", "m", "u"), with("k", "v", "m", "u", "l", "w"), with("k", "v", "m", "u"),
		many(7, "v"), many(8, "v"), many(8, ""), many(9, "v"), many(100, "v"), many(101, "v"), of(x(64), "b"), of(x(65), "b"), with("k", x(70)), with("k", x(71)),
	}
}

func TestSame(t *testing.T) {
	for i, a := range unlike() {
		for k, b := range unlike() {
			if Same(a, b) != (i == k) || slowSame(a, b) != (i == k) {
				t.Errorf("%s and %s: %v", briefType(a), briefType(b), Same(a, b))
			}
		}
	}
	empty := api.Type{Main: "a", Sub: "b", Params: []api.Param{}}
	if !Same(of("a", "b"), empty) || !Same(empty, of("a", "b")) || !Same(empty, empty) || !Same(empty, api.Type{Main: "a", Sub: "b", Params: with("k", "v").Params[:0]}) {
		t.Error("an empty list isn't the same as none")
	}
}

// TestSameOfEachField: of eight Params, one of whose fields is another one, or gone.
func TestSameOfEachField(t *testing.T) {
	for i := range 8 {
		for _, change := range []func(p *api.Param){func(p *api.Param) { p.Name += "x" }, func(p *api.Param) { p.Value += "x" }, func(p *api.Param) { p.Name = "" }, func(p *api.Param) { p.Value = "" }, func(p *api.Param) { p.Name, p.Value = p.Value, p.Name }} {
			a, b := many(8, "v"), many(8, "v")
			change(&b.Params[i])
			if Same(a, b) || Same(b, a) {
				t.Errorf("%s and %s are the same", briefType(a), briefType(b))
			}
		}
		fewer := many(8, "v")
		fewer.Params = slices.Delete(fewer.Params, i, i+1)
		if Same(many(8, "v"), fewer) || Same(fewer, many(8, "v")) || Same(many(7, "v"), fewer) != (i == 7) {
			t.Errorf("of %s", briefType(fewer))
		}
	}
}

func gives(t *testing.T, a api.Type, name, want string, found bool) {
	t.Helper()
	if value, ok := Param(a, name); value != want || ok != found {
		t.Errorf("%s of %s: %s %v, not %s %v", brief(name), briefType(a), brief(value), ok, brief(want), found)
	}
}

func TestParam(t *testing.T) {
	a := of("text", "plain", "charset", "utf-8", "e", "", "name", "A b", x(64), x(70))
	for name, want := range map[string]string{"charset": "utf-8", "e": "", "name": "A b", x(64): x(70)} {
		gives(t, a, name, want, true)
	}
	for _, name := range []string{"", "text", "plain", "utf-8", "c", "charse", "harset", "charset ", " charset", "charset=", "Charset", "CHARSET", "E", "A b", x(63), x(65), "\x00", "\xff"} {
		gives(t, a, name, "", false)
		gives(t, of("text", "plain"), name, "", false)
		gives(t, api.Type{}, name, "", false)
		gives(t, api.Type{Params: []api.Param{}}, name, "", false)
	}
	// There twice, also of types that aren't right.
	gives(t, with("k", "1", "k", "2"), "k", "1", true)
	gives(t, with("k", "", "k", "2"), "k", "", true)
	gives(t, with("l", "0", "k", "1", "l", "3", "k", "2"), "k", "1", true)
	gives(t, with("K", "0", "k", "1", "k", "2"), "k", "1", true)
	gives(t, with("K", "0", "k", "1"), "K", "0", true)
	gives(t, with("", "\x00", "", "b"), "", "\x00", true)
	gives(t, with("a\xff", "1", "a\xfe", "2"), "a\xfe", "2", true)
	gives(t, with("a\xff", "1"), "a\xef\xbf\xbd", "", false)
	gives(t, of("", "", "k", x(5000)), "k", x(5000), true)
	gives(t, many(1000, "v"), "n999", "v", true)
	gives(t, many(1000, "v"), "n1000", "", false)
}

// TestTypesAreTheCallers: they aren't changed, nor is the room behind them.
func TestTypesAreTheCallers(t *testing.T) {
	a := with("k", "v w", "l", "\"", "m", "")
	was := with("k", "v w", "l", "\"", "m", "")
	short := a
	short.Params = a.Params[:1]
	for _, b := range []api.Type{a, short} {
		Right(b)
		Print(b)
		Same(b, a)
		Param(b, "l")
	}
	if !slowSame(a, was) {
		t.Error(briefType(a))
	}
}
