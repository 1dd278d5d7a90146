package ctype

import (
	"math/rand"
	"strings"
	"testing"

	"mailguard/api"
)

// prints checks a type's text, and against the slow way.
func prints(t *testing.T, a api.Type, want string, e api.Errno) {
	t.Helper()
	if s, g := Print(a); s != want || g != e {
		t.Errorf("%s: %s %d, not %s %d", briefType(a), brief(s), g, brief(want), e)
	}
	if s, g := slowPrint(a); s != want || g != e {
		t.Errorf("%s: slowly %s %d, not %s %d", briefType(a), brief(s), g, brief(want), e)
	}
}

func TestPrint(t *testing.T) {
	prints(t, of("text", "plain"), "text/plain", api.OK)
	prints(t, api.Type{Main: "text", Sub: "plain", Params: []api.Param{}}, "text/plain", api.OK)
	prints(t, of("text", "plain", "charset", "utf-8"), "text/plain; charset=utf-8", api.OK)
	prints(t, of("multipart", "mixed", "boundary", "a b"), "multipart/mixed; boundary=\"a b\"", api.OK)
	prints(t, with("k", "v", "l", "", "m", "W"), "a/b; k=v; l=\"\"; m=\"W\"", api.OK)
	// In their order, whatever their Names.
	prints(t, with("z", "1", "a", "2", "m", "3"), "a/b; z=1; a=2; m=3", api.OK)
	prints(t, of(x(64), x(64), x(64), x(64)), x(64)+"/"+x(64)+"; "+x(64)+"="+x(64), api.OK)
	prints(t, of("-", "+", ".", "!"), "-/+; .=!", api.OK)
	prints(t, many(8, "v"), "a/b; n0=v; n1=v; n2=v; n3=v; n4=v; n5=v; n6=v; n7=v", api.OK)
	for _, s := range rightTokens() {
		prints(t, of(s, "b", "k", "v"), s+"/b; k=v", api.OK)
		prints(t, of("a", s, "k", "v"), "a/"+s+"; k=v", api.OK)
		prints(t, with(s, "v"), "a/b; "+s+"=v", api.OK)
		prints(t, with("k", s), "a/b; k="+s, api.OK)
	}
}

func TestPrintOfValues(t *testing.T) {
	for value, want := range map[string]string{
		"a": "a", "0": "0", "-": "-", "!#$&-^_.+": "!#$&-^_.+", x(64): x(64), strings.Repeat(".", 64): strings.Repeat(".", 64),
		"": `""`, " ": `" "`, "  ": `"  "`, "A": `"A"`, "aB": `"aB"`, "a b": `"a b"`, " a": `" a"`, "a ": `"a "`, "a;b": `"a;b"`, "a=b": `"a=b"`, "a/b": `"a/b"`, "'": `"'"`, "~": `"~"`, "*": `"*"`, "(x)": `"(x)"`,
		// Of a token's bytes alone, but too long for one.
		x(65): `"` + x(65) + `"`, x(70): `"` + x(70) + `"`, strings.Repeat("-", 65): `"` + strings.Repeat("-", 65) + `"`,
		strings.Repeat(" ", 70): `"` + strings.Repeat(" ", 70) + `"`,
		// A backslash stands ahead of each quote and backslash.
		`"`: `"\""`, `\`: `"\\"`, `""`: `"\"\""`, `\\`: `"\\\\"`, `\"`: `"\\\""`, `"\`: `"\"\\"`, `a"b`: `"a\"b"`, `a\b`: `"a\\b"`, `"a"`: `"\"a\""`, `a\`: `"a\\"`,
		strings.Repeat(`"`, 70): `"` + strings.Repeat(`\"`, 70) + `"`, strings.Repeat(`\`, 70): `"` + strings.Repeat(`\\`, 70) + `"`,
	} {
		prints(t, with("k", value), "a/b; k="+want, api.OK)
		prints(t, with("k", value, "l", "v", "m", value), "a/b; k="+want+"; l=v; m="+want, api.OK)
	}
}

func TestPrintOfEachByte(t *testing.T) {
	for c := range 256 {
		b := one(c)
		token := strings.Contains(tokenBytes, b)
		said := b
		if b == `"` || b == `\` {
			said = `\` + b
		}
		for _, s := range []string{b, "v" + b, b + "v", "v" + b + "w", b + b, x(63) + b, b + x(64), x(69) + b} {
			switch {
			case c < 32 || c > 126:
				prints(t, with("k", s), "", api.ErrForm)
			case token && len(s) <= 64:
				prints(t, with("k", s), "a/b; k="+s, api.OK)
			default:
				prints(t, with("k", s), `a/b; k="`+strings.ReplaceAll(s, b, said)+`"`, api.OK)
			}
		}
		for _, s := range []string{b, "v" + b, b + "v", "v" + b + "w"} {
			want, e := []string{s + "/b", "a/" + s, "a/b; " + s + "=1"}, api.OK
			if !token {
				want, e = []string{"", "", ""}, api.ErrForm
			}
			prints(t, of(s, "b"), want[0], e)
			prints(t, of("a", s), want[1], e)
			prints(t, with(s, "1"), want[2], e)
		}
	}
}

func TestPrintOfWrongTypes(t *testing.T) {
	for _, a := range wrongTypes() {
		prints(t, a, "", api.ErrForm)
	}
}

// anyText answers a text of the letters, of at most so many.
func anyText(r *rand.Rand, letters string, most int) string {
	s := make([]byte, r.Intn(most+1))
	for i := range s {
		s[i] = letters[r.Intn(len(letters))]
	}
	return string(s)
}

// printable: each byte that a Value may have.
const printable = " !\"#$%&'()*+,-./0123456789:;<=>?@ABCDEFGHIJKLMNOPQRSTUVWXYZ[\\]^_`abcdefghijklmnopqrstuvwxyz{|}~"

// anyType answers a right type, of parts of all lengths.
func anyType(r *rand.Rand) api.Type {
	most := []int{2, 9, 65, 71}[r.Intn(4)]
	for {
		a := of(anyText(r, tokenBytes, min(most, 65)), anyText(r, tokenBytes, min(most, 65)))
		for range r.Intn(9) {
			letters := []string{tokenBytes, printable, "\"\\ a;=", " "}[r.Intn(4)]
			a.Params = append(a.Params, api.Param{Name: anyText(r, tokenBytes, min(most, 12)), Value: anyText(r, letters, most)})
		}
		if slowRight(a) {
			return a
		}
	}
}

func TestPrintOfAnyTypes(t *testing.T) {
	r := rand.New(rand.NewSource(30))
	wrong := 0
	for range 8000 {
		a := anyType(r)
		switch r.Intn(30) {
		case 0:
			a.Main += one(r.Intn(256))
		case 1:
			a.Sub += one(r.Intn(256))
		case 2:
			a.Params = append(a.Params, api.Param{Name: one(r.Intn(256)), Value: one(r.Intn(256))})
		case 3:
			a.Params = append(a.Params, a.Params[:min(1, len(a.Params))]...)
		}
		want, e := slowPrint(a)
		if e != api.OK {
			wrong++
		}
		prints(t, a, want, e)
	}
	if wrong < 200 {
		t.Error("so few wrong ones:", wrong)
	}
}
