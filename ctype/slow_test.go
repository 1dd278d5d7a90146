package ctype

import (
	"fmt"
	"regexp"
	"slices"
	"strings"
	"testing"

	"mailguard/api"
)

func x(count int) string { return strings.Repeat("x", count) }

// one is a text of that byte.
func one(c int) string { return string([]byte{byte(c)}) }

// with is a type a/b with Params, told as a Name and a Value, a Name and a Value.
func with(params ...string) api.Type { return of("a", "b", params...) }

func of(first, second string, params ...string) api.Type {
	t := api.Type{Main: first, Sub: second}
	for pair := range slices.Chunk(params, 2) {
		t.Params = append(t.Params, api.Param{Name: pair[0], Value: pair[1]})
	}
	return t
}

// many is a type with so many Params of Names apart, and of that Value.
func many(count int, value string) api.Type {
	t := of("a", "b")
	for i := range count {
		t.Params = append(t.Params, api.Param{Name: fmt.Sprintf("n%d", i), Value: value})
	}
	return t
}

// brief tells a text so that its bytes are seen, of a long one the first and the last.
func brief(s string) string {
	if len(s) > 90 {
		return fmt.Sprintf("%q..%d..%q", s[:45], len(s)-90, s[len(s)-45:])
	}
	return fmt.Sprintf("%q", s)
}

func briefType(t api.Type) string {
	all := []string{brief(t.Main), brief(t.Sub)}
	for _, p := range t.Params[:min(len(t.Params), 9)] {
		all = append(all, brief(p.Name)+"="+brief(p.Value))
	}
	return fmt.Sprintf("%d params: {%s}", len(t.Params), strings.Join(all, " "))
}

const (
	tokenBy  = "[a-z0-9!#$&^_.+-]{1,64}"
	nameBy   = "[A-Za-z0-9!#$&^_.+-]{1,64}"
	quotedBy = `"((?:[^"\\]|\\.)*)"`
	paramBy  = `;[ \t]*(` + nameBy + `)=(?:(` + tokenBy + `)|` + quotedBy + `)[ \t]*`
)

var (
	slowToken = regexp.MustCompile(`\A` + tokenBy + `\z`)
	slowValue = regexp.MustCompile(`\A[ -~]{0,70}\z`)
	slowHead  = regexp.MustCompile(`\A[ \t]*(` + nameBy + `)/(` + nameBy + `)[ \t]*`)
	slowParam = regexp.MustCompile(`(?s)\A` + paramBy)
	slowMark  = regexp.MustCompile(`["\\]`)
	slowSaid  = regexp.MustCompile(`(?s)\\(.)`)
)

// slowRight tells in another way than the program whether a type is right.
func slowRight(t api.Type) bool {
	names := map[string]bool{}
	for _, p := range t.Params {
		if !slowToken.MatchString(latin(p.Name)) || !slowValue.MatchString(latin(p.Value)) {
			return false
		}
		names[p.Name] = true
	}
	return slowToken.MatchString(latin(t.Main)) && slowToken.MatchString(latin(t.Sub)) && len(t.Params) <= 8 && len(names) == len(t.Params)
}

// latin answers a text of one rune for each byte, so that an expression takes bytes one by one.
func latin(s string) string {
	all := make([]rune, len(s))
	for i := range len(s) {
		all[i] = rune(s[i])
	}
	return string(all)
}

func slowSame(a, b api.Type) bool {
	return fmt.Sprintf("%q %q %q", a.Main, a.Sub, append([]api.Param{}, a.Params...)) == fmt.Sprintf("%q %q %q", b.Main, b.Sub, append([]api.Param{}, b.Params...))
}

func quoted(s string) string { return `"` + slowMark.ReplaceAllString(s, `\$0`) + `"` }

func slowPrint(t api.Type) (string, api.Errno) {
	if !slowRight(t) {
		return "", api.ErrForm
	}
	all := []string{t.Main + "/" + t.Sub}
	for _, p := range t.Params {
		if slowToken.MatchString(p.Value) {
			all = append(all, p.Name+"="+p.Value)
		} else {
			all = append(all, p.Name+"="+quoted(p.Value))
		}
	}
	return strings.Join(all, "; "), api.OK
}

// slowParse takes one parameter off the text by one expression, as often as it can.
func slowParse(s string) (api.Type, api.Errno) {
	rest := latin(s)
	head := slowHead.FindStringSubmatch(rest)
	if head == nil {
		return api.Type{}, api.ErrForm
	}
	t := of(strings.ToLower(head[1]), strings.ToLower(head[2]))
	rest = rest[len(head[0]):]
	for rest != "" {
		found := slowParam.FindStringSubmatch(rest)
		if found == nil {
			return api.Type{}, api.ErrForm
		}
		t.Params = append(t.Params, api.Param{Name: strings.ToLower(found[1]), Value: found[2] + slowSaid.ReplaceAllString(found[3], "$1")})
		rest = rest[len(found[0]):]
	}
	if !slowRight(t) {
		return api.Type{}, api.ErrForm
	}
	return t, api.OK
}

// tells checks what a text tells, and against the slow way.
func tells(t *testing.T, s string, want api.Type) {
	t.Helper()
	if got, e := Parse(s); !slowSame(got, want) || e != api.OK {
		t.Errorf("%s: %s %d, not %s", brief(s), briefType(got), e, briefType(want))
	}
	if got, e := slowParse(s); !slowSame(got, want) || e != api.OK {
		t.Errorf("%s: slowly %s %d", brief(s), briefType(got), e)
	}
}

// refused checks that a text is refused, and against the slow way.
func refused(t *testing.T, s string) {
	t.Helper()
	if got, e := Parse(s); !slowSame(got, api.Type{}) || e != api.ErrForm {
		t.Errorf("%s: %s %d", brief(s), briefType(got), e)
	}
	if _, e := slowParse(s); e != api.ErrForm {
		t.Errorf("%s: slowly %d", brief(s), e)
	}
}

// agrees checks a text against the slow way alone, and answers whether it tells a type.
func agrees(t *testing.T, s string) bool {
	t.Helper()
	want, e := slowParse(s)
	if got, g := Parse(s); !slowSame(got, want) || g != e {
		t.Errorf("%s: %s %d, not %s %d", brief(s), briefType(got), g, briefType(want), e)
	}
	return e == api.OK
}

// textsOf answers all texts of at most so many of the letters.
func textsOf(letters string, most int) []string {
	all := []string{""}
	from := 0
	for range most {
		till := len(all)
		for _, s := range all[from:till] {
			for i := range len(letters) {
				all = append(all, s+letters[i:i+1])
			}
		}
		from = till
	}
	return all
}

func TestTextsOf(t *testing.T) {
	if all := textsOf("ab", 3); len(all) != 15 || all[0] != "" || all[14] != "bbb" {
		t.Error(all)
	}
}
