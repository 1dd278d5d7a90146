package mime

import (
	"fmt"
	"slices"
	"strings"
	"testing"

	"mailguard/api"
)

// plain is a leaf text/plain of that body.
func plain(body string, fields ...string) api.Part { return leaf("text", "plain", body, fields...) }

// leaf has fields told as a name and a body, a name and a body.
func leaf(first, second, body string, fields ...string) api.Part {
	p := api.Part{Type: api.Type{Main: first, Sub: second}, Body: body}
	for pair := range slices.Chunk(fields, 2) {
		p.Fields = append(p.Fields, api.Field{Name: pair[0], Body: pair[1]})
	}
	return p
}

// mixed is a multipart/mixed whose only field tells its type, and that boundary, a token.
func mixed(boundary string, parts ...api.Part) api.Part {
	p := leaf("multipart", "mixed", "", "Content-Type", "multipart/mixed; boundary="+boundary)
	p.Type.Params = []api.Param{{Name: "boundary", Value: boundary}}
	p.Parts = parts
	return p
}

// head is the header of mixed.
func head(boundary string) string {
	return "Content-Type: multipart/mixed; boundary=" + boundary + "\r\n\r\n"
}

// body is the raw body of a multipart.
func body(boundary string, texts ...string) string {
	var s strings.Builder
	for _, text := range texts {
		s.WriteString("--" + boundary + "\r\n" + text + "\r\n")
	}
	return s.String() + "--" + boundary + "--\r\n"
}

// multi is the text of a mixed one.
func multi(boundary string, texts ...string) string { return head(boundary) + body(boundary, texts...) }

// nested is a text within so many multiparts, of a boundary each, the tree of which is within says.
func nested(text string, p api.Part, count int) (string, api.Part) {
	for i := range count {
		boundary := fmt.Sprintf("n%d", i)
		text, p = multi(boundary, text), mixed(boundary, p)
	}
	return text, p
}

func inMultiparts(text string, count int) string {
	s, _ := nested(text, api.Part{}, count)
	return s
}

func TestParseOfLeaves(t *testing.T) {
	tells(t, "Subject: x\r\n\r\nhello", plain("hello", "Subject", "x"))
	tells(t, "\r\n", plain(""))
	tells(t, "\r\nhello", plain("hello"))
	tells(t, "\r\n\r\n\r\n", plain("\r\n\r\n"))
	tells(t, "\r\na: b\r\n\r\nc", plain("a: b\r\n\r\nc"))
	tells(t, "Subject: a\r\n b\r\nTO:\r\n\r\n\x00\xff\r\n.\n", plain("\x00\xff\r\n.\n", "Subject", "a b", "TO", ""))
	tells(t, "Content-Type: image/png\r\n\r\nx", leaf("image", "png", "x", "Content-Type", "image/png"))
	tells(t, "A: 1\r\nContent-Type: message/rfc822\r\nA: 2\r\n\r\nA: 3\r\n\r\n", leaf("message", "rfc822", "A: 3\r\n\r\n", "A", "1", "Content-Type", "message/rfc822", "A", "2"))
	tells(t, "Content-Type: multiparts/mixed\r\n\r\n--b", leaf("multiparts", "mixed", "--b", "Content-Type", "multiparts/mixed"))
	tells(t, "Content-Type: text/multipart\r\n\r\n", leaf("text", "multipart", "", "Content-Type", "text/multipart"))
	p := leaf("text", "html", "x", "Content-Type", "Text/HTML ; Charset=\"utf-8\";boundary=b")
	p.Type.Params = []api.Param{{Name: "charset", Value: "utf-8"}, {Name: "boundary", Value: "b"}}
	tells(t, "Content-Type:  Text/HTML ; Charset=\"utf-8\";boundary=b \t\r\n\r\nx", p)
	p.Fields[0].Body = "Text/HTML ; Charset=\"utf-8\"; boundary=b"
	tells(t, "Content-Type: Text/HTML ; Charset=\"utf-8\";\r\n boundary=b\r\n\r\nx", p)
}

func TestParseOfMultiparts(t *testing.T) {
	tells(t, multi("b", "\r\none"), mixed("b", plain("one")))
	tells(t, multi("b", "\r\none", "To: x\r\n\r\ntwo\r\n", "\r\n"), mixed("b", plain("one"), plain("two\r\n", "To", "x"), plain("")))
	tells(t, multi("b", multi("c", "\r\n1"), "\r\n2", multi("d", "\r\n3", "\r\n4")), mixed("b", mixed("c", plain("1")), plain("2"), mixed("d", plain("3"), plain("4"))))
	p := leaf("multipart", "x-y", "", "Subject", "x", "CONTENT-TYPE", "MultiPart/X-Y; a=1; BOUNDARY=\"a b\"; c=2", "To", "y")
	p.Type.Params = []api.Param{{Name: "a", Value: "1"}, {Name: "boundary", Value: "a b"}, {Name: "c", Value: "2"}}
	p.Parts = []api.Part{leaf("image", "gif", "hello", "content-type", "image/gif", "content-transfer-encoding", "Base64")}
	tells(t, "Subject: x\r\nCONTENT-TYPE: MultiPart/X-Y; a=1; BOUNDARY=\"a b\"; c=2\r\nTo: y\r\n\r\n--a b\r\ncontent-type: image/gif\r\ncontent-transfer-encoding: Base64\r\n\r\naGVsbG8=\r\n\r\n--a b--\r\n", p)
}

// TestParseOfLongTexts: 16384 bytes and no more, whatever else is wrong.
func TestParseOfLongTexts(t *testing.T) {
	tells(t, "\r\n"+x(16382), plain(x(16382)))
	tells(t, "A: b\r\n\r\n"+x(16376), plain(x(16376), "A", "b"))
	tells(t, multi("b", "\r\n"+x(16384-len(multi("b", "\r\n")))), mixed("b", plain(x(16384-len(multi("b", "\r\n"))))))
	refused(t, x(16384), api.ErrForm)
	refused(t, multi("b", strings.Repeat("\r\n", 8000)+"\r\n--b\r\n"), api.ErrForm)
	for _, count := range []int{16385, 16386, 20000, 1 << 20} {
		refused(t, x(count), api.ErrLong)
		for _, s := range []string{"\r\n", "A: b\r\n\r\n", "A\r\n\r\n", "Content-Type: x\r\n\r\n", "Content-Transfer-Encoding: base64\r\n\r\n", head("b"), multi("b", "\r\n"), inMultiparts("\r\n", 5)} {
			refused(t, s+x(count-len(s)), api.ErrLong)
		}
		refused(t, multi("b", "\r\n"+x(count-len(multi("b", "\r\n")))), api.ErrLong)
		refused(t, strings.Repeat("\r\n", count), api.ErrLong)
	}
}

// TestParseOfManyParts: 16384 bytes have room for far more than 16.
func TestParseOfManyParts(t *testing.T) {
	for count := 1; count <= 60; count++ {
		s := multi("b", slices.Repeat([]string{"\r\nx"}, count)...)
		if count > 15 {
			refused(t, s, api.ErrLong)
			continue
		}
		tells(t, s, mixed("b", slices.Repeat([]api.Part{plain("x")}, count)...))
	}
	refused(t, multi("b", slices.Repeat([]string{""}, 2000)...), api.ErrForm)
	refused(t, multi("b", slices.Repeat([]string{"\r\n"}, 1700)...), api.ErrLong)
	refused(t, multi("b", slices.Repeat([]string{"\r\nx"}, 1600)...), api.ErrLong)
}

// TestParseOfManyNestedParts: all parts are counted together, wherever they stand.
func TestParseOfManyNestedParts(t *testing.T) {
	for first := 1; first <= 15; first++ {
		for second := 1; second <= 15; second++ {
			for behind := range 3 {
				ones, twos := slices.Repeat([]string{"\r\n1"}, first), slices.Repeat([]string{"\r\n2"}, second)
				texts := append([]string{multi("c", ones...), multi("d", twos...)}, slices.Repeat([]string{"\r\n3"}, behind)...)
				s := multi("b", texts...)
				if 3+first+second+behind > 16 {
					refused(t, s, api.ErrLong)
					continue
				}
				parts := []api.Part{mixed("c", slices.Repeat([]api.Part{plain("1")}, first)...), mixed("d", slices.Repeat([]api.Part{plain("2")}, second)...)}
				tells(t, s, mixed("b", append(parts, slices.Repeat([]api.Part{plain("3")}, behind)...)...))
			}
		}
	}
	// Each Parse counts anew.
	for range 20 {
		tells(t, multi("b", "\r\n"), mixed("b", plain("")))
	}
}

func TestParseOfDeepTexts(t *testing.T) {
	for count := range 30 {
		s, p := nested("\r\nx", plain("x"), count)
		if count <= 4 {
			tells(t, s, p)
		} else {
			// Of 16 and more, too: the fifth one comes ahead of the 17th part.
			refused(t, s, api.ErrDeep)
		}
	}
	// Leaves stand within four, wherever; a multipart behind a deep leaf doesn't.
	deep, p := nested("\r\nx", plain("x"), 3)
	tells(t, multi("b", deep, "\r\n", deep), mixed("b", p, plain(""), p))
	deep, _ = nested("\r\nx", plain("x"), 4)
	refused(t, multi("b", deep), api.ErrDeep)
	refused(t, multi("b", "\r\n", deep), api.ErrDeep)
	refused(t, multi("b", inMultiparts("\r\nx", 3), deep), api.ErrDeep)
	tells(t, multi("b", "\r\n", inMultiparts("\r\nx", 3)), mixed("b", plain(""), p))
	// What a leaf's bytes tell isn't deeper.
	s, p := nested("Content-Type: message/rfc822\r\n\r\n"+multi("b", "\r\n"), leaf("message", "rfc822", multi("b", "\r\n"), "Content-Type", "message/rfc822"), 4)
	tells(t, s, p)
}

// cases: a text in other letters.
func cases(s string) []string {
	mixed := []byte(strings.ToLower(s))
	for i := 0; i < len(mixed); i += 2 {
		mixed[i] = strings.ToUpper(s)[i]
	}
	return []string{s, strings.ToLower(s), strings.ToUpper(s), string(mixed), strings.ToUpper(s[:1]) + s[1:], s[:len(s)-1] + strings.ToUpper(s[len(s)-1:])}
}

func TestParseOfCodings(t *testing.T) {
	for coding, both := range map[string][2]string{"7bit": {"a=3D\xff\r\n", "a=3D\xff\r\n"}, "8bit": {"YQ==\r\n", "YQ==\r\n"}, "base64": {"YQ==\r\n", "a"}, "quoted-printable": {"a=3D=FF\r\n", "a=\xff\r\n"}} {
		for _, name := range cases("Content-Transfer-Encoding") {
			for _, told := range cases(coding) {
				for _, pair := range [][2]string{both, {"", ""}} {
					s, p := name+": "+told+"\r\n\r\n"+pair[0], plain(pair[1], name, told)
					tells(t, s, p)
					tells(t, name+":\t "+told+" \t\r\n\r\n"+pair[0], p)
					tells(t, multi("b", "\r\n", s), mixed("b", plain(""), p))
					p = leaf("image", "png", pair[1], name, told, "Content-Type", "image/png")
					tells(t, name+":"+told+"\r\nContent-Type: image/png\r\n\r\n"+pair[0], p)
				}
			}
		}
	}
	// None is none that is empty.
	tells(t, "Content-Transfer-Encodings: base64\r\nX-Content-Transfer-Encoding: y\r\n\r\na=", plain("a=", "Content-Transfer-Encodings", "base64", "X-Content-Transfer-Encoding", "y"))
}

func wrongCodings() []string {
	return []string{"", "7", "bit", "7bits", "7bit8bit", "7bit;", "7bit, 8bit", "7bit 8bit", "7 bit", "\"7bit\"", "7bit (x)", "(x) 7bit", "9bit", "16bit", "binary", "BINARY", "x-7bit", "base", "base 64", "base-64", "base6", "base644", "base64;", "base64 x", "base64=", "quoted", "quoted_printable", "quoted printable", "quotedprintable", "quoted-printable;", "quoted-printables", "quoted-\tprintable", "q", "b", "none", "text/plain", "\x01", "7bit\x01", "\xff", "7bit\xff", "7b\xc4\xb0t", "8b\u0130t", "7b\u0131t", "ba\u017fe64", "\uff17bit", "quoted-pr\u0130ntable", x(900)}
}

func TestParseOfWrongCodings(t *testing.T) {
	for _, coding := range wrongCodings() {
		for _, kind := range []string{"", "Content-Type: text/plain\r\n", "Content-Type: image/png\r\n"} {
			s := kind + "Content-Transfer-Encoding: " + coding + "\r\n\r\n"
			refused(t, s, api.ErrForm)
			refused(t, s+"YQ==\r\n", api.ErrForm)
			refused(t, multi("b", "\r\n", s), api.ErrForm)
		}
		refused(t, "Content-Transfer-Encoding: "+coding+"\r\n"+multi("b", "\r\n"), api.ErrForm)
	}
}

// TestParseOfCodedMultiparts: of 7bit and 8bit only, of whatever bytes.
func TestParseOfCodedMultiparts(t *testing.T) {
	for _, name := range cases("Content-Transfer-Encoding") {
		for _, coding := range []string{"7bit", "8bit"} {
			for _, told := range cases(coding) {
				p := mixed("b", plain("\xff"))
				p.Fields = append(p.Fields, api.Field{Name: name, Body: told})
				tells(t, "Content-Type: multipart/mixed; boundary=b\r\n"+name+": "+told+"\r\n\r\n"+body("b", "\r\n\xff"), p)
			}
		}
		for _, coding := range []string{"base64", "quoted-printable"} {
			for _, told := range cases(coding) {
				s := name + ": " + told + "\r\n" + multi("b", "\r\n")
				refused(t, s, api.ErrForm)
				refused(t, multi("c", s), api.ErrForm)
			}
		}
	}
	refused(t, "Content-Type: multipart/mixed; boundary=b\r\nContent-Transfer-Encoding: base64\r\n\r\nLS1iDQoNCg0KLS1iLS0NCg==\r\n", api.ErrForm)
	refused(t, "Content-Type: multipart/mixed; boundary=\"=\"\r\nContent-Transfer-Encoding: quoted-printable\r\n\r\n--=3D\r\n\r\n\r\n--=3D--\r\n", api.ErrForm)
}

func TestParseOfWhatCannotBeDecoded(t *testing.T) {
	for coding, bodies := range map[string][]string{
		"base64":           {"YQ==", "YQ=", "YQ==\n", "YQ==\r\n\r\n", "\r\n", " YQ==\r\n", "YQ\r\n==\r\n", "YR==\r\n", "Y\r\n", "aGVsbG8\r\n", "hello\xff\r\n", "YQ==\r\nYQ==\r\n", strings.Repeat("YWFh", 20) + "\r\n", "-\r\n"},
		"quoted-printable": {"a ", "a \r\nb", "\t", "=", "=\r\n", "=3", "=3d", "=41", "a=", "\r", "\n", "\xff", "\x00", x(76), "a=\r\nb", "=G0"},
	} {
		for _, b := range bodies {
			for _, kind := range []string{"", "Content-Type: image/png\r\n"} {
				s := kind + "Content-Transfer-Encoding: " + coding + "\r\n\r\n" + b
				refused(t, s, api.ErrForm)
				refused(t, multi("b", "\r\n", s), api.ErrForm)
				refused(t, inMultiparts(s, 4), api.ErrForm)
			}
			// Of the other codings it is but bytes.
			tells(t, "Content-Transfer-Encoding: 7bit\r\n\r\n"+b, plain(b, "Content-Transfer-Encoding", "7bit"))
			tells(t, "\r\n"+b, plain(b))
		}
	}
}

// TestParseOfSeveralFields: the first one of a name counts, in whatever letters.
func TestParseOfSeveralFields(t *testing.T) {
	for _, first := range cases("Content-Type") {
		for _, second := range cases("Content-Type") {
			for _, other := range []string{"image/png", "multipart/mixed", "x", "", "text/plain; a"} {
				tells(t, "A: b\r\n"+first+": a/b\r\nC: d\r\n"+second+": "+other+"\r\n\r\nx", leaf("a", "b", "x", "A", "b", first, "a/b", "C", "d", second, other))
				p := mixed("b", plain(""))
				p.Fields = append([]api.Field{{Name: first, Body: "multipart/mixed; boundary=b"}}, api.Field{Name: second, Body: other})
				tells(t, first+": multipart/mixed; boundary=b\r\n"+second+": "+other+"\r\n\r\n"+body("b", "\r\n"), p)
			}
			refused(t, first+": x\r\n"+second+": a/b\r\n\r\n", api.ErrForm)
			refused(t, first+":\r\n"+second+": a/b\r\n\r\n", api.ErrForm)
			refused(t, first+": multipart/mixed; boundary=c\r\n"+second+": multipart/mixed; boundary=b\r\n\r\n"+body("b", "\r\n"), api.ErrForm)
		}
	}
	for _, first := range cases("Content-Transfer-Encoding") {
		for _, second := range cases("Content-Transfer-Encoding") {
			for _, other := range []string{"8bit", "quoted-printable", "x", ""} {
				tells(t, first+": base64\r\n"+second+": "+other+"\r\n\r\nYQ==\r\n", plain("a", first, "base64", second, other))
			}
			tells(t, first+": 7bit\r\n"+second+": base64\r\n\r\nYQ==\r\n", plain("YQ==\r\n", first, "7bit", second, "base64"))
			refused(t, first+": x\r\n"+second+": 7bit\r\n\r\n", api.ErrForm)
			refused(t, first+": \r\n"+second+": 7bit\r\n\r\n", api.ErrForm)
		}
	}
}

func TestParseOfWrongTypes(t *testing.T) {
	for _, kind := range []string{"", "x", "text", "text/", "/plain", "text/plain;", "text/plain; a", "text/plain; a=b; a=b", "text/plain; a=B", "text/plain; a=\"", "text plain", "text/plain (x)", "caf\xc3\xa9/x", "multipart", "multipart/", "multipart/mixed;", "multipart/mixed; boundary", "multipart/mixed; boundary=", "multipart/mixed boundary=b", "multipart/mixed; boundary=b; boundary=b", "multipart/mixed; boundary=\"b", "multipart/mixed; boundary=B", x(65) + "/y", x(900)} {
		for _, name := range cases("Content-Type") {
			refused(t, name+": "+kind+"\r\n\r\n", api.ErrForm)
			refused(t, name+": "+kind+"\r\n\r\n"+body("b", "\r\n"), api.ErrForm)
			refused(t, multi("b", "\r\n", name+": "+kind+"\r\n\r\nx"), api.ErrForm)
		}
	}
}

// quotedValue is a parameter's value between quotes.
func quotedValue(s string) string {
	return `"` + strings.ReplaceAll(strings.ReplaceAll(s, `\`, `\\`), `"`, `\"`) + `"`
}

func boundaries() []string {
	all := []string{"b", "bb", "B", "--", "---", "b--", "--b", " ", "  ", " b", "b ", "b b", "=_0", "\"", "\\", "\\\"", "b:", ":", "Content-Type:", "(", "'()+_,-./:=?", "Subject: x", "a/b; c=d", ";", "=", x(2), x(63), x(64), x(65), x(69), x(70), strings.Repeat("-", 70), strings.Repeat(" ", 70), strings.Repeat("\"", 70), x(69) + ":"}
	for c := 32; c < 127; c++ {
		all = append(all, one(c), "b"+one(c), one(c)+"b", one(c)+one(c))
	}
	return all
}

func TestParseOfBoundaries(t *testing.T) {
	for _, b := range boundaries() {
		told := "multipart/mixed; boundary=" + quotedValue(b)
		p := leaf("multipart", "mixed", "", "Content-Type", told)
		p.Type.Params = []api.Param{{Name: "boundary", Value: b}}
		p.Parts = []api.Part{plain("x-" + b + "\r\n -" + b), plain("y\r\n", "Z", "")}
		s := "Content-Type: " + told + "\r\n\r\n"
		tells(t, s+body(b, "\r\nx-"+b+"\r\n -"+b, "Z:\r\n\r\ny\r\n"), p)
		p.Parts = []api.Part{plain("")}
		tells(t, s+body(b, "\r\n"), p)
		for _, wrong := range []string{"--" + b + "\r\n", "--" + b + "--\r\n", "--" + b + "\r\n\r\n", "--" + b + "\r\n\r\n--" + b + "\r\n", "--" + b + "\r\n--" + b + "\r\n\r\n\r\n--" + b + "--\r\n", body(b), body(b, ""), body(b, "\r\n") + "\r\n", body(b, "\r\n") + body(b, "\r\n"), " " + body(b, "\r\n"), body(b, "\r\n--"+b+"x"), body(b, "\r\n--"+b+" "), body(b+"x", "\r\n"), body("x"+b, "\r\n")} {
			refused(t, s+wrong, api.ErrForm)
		}
	}
	tells(t, "Content-Type: multipart/mixed; boundary="+x(64)+"\r\n\r\n"+body(x(64), "\r\n"), mixed(x(64), plain("")))
}

func TestParseOfWrongBoundaries(t *testing.T) {
	for _, s := range []string{
		// None, or an empty one.
		"Content-Type: multipart/mixed\r\n\r\n" + body("", "\r\n"), "Content-Type: multipart/mixed\r\n\r\n" + body("b", "\r\n"), "Content-Type: multipart/mixed; boundary=\"\"\r\n\r\n" + body("", "\r\n"), "Content-Type: multipart/mixed; boundary=\"\"\r\n\r\n" + body("\"\"", "\r\n"), "Content-Type: multipart/mixed; boundary=\r\n\r\n" + body("", "\r\n"), "Content-Type: multipart/mixed; bound=b\r\n\r\n" + body("b", "\r\n"), "Content-Type: multipart/mixed; a=boundary; b=c\r\n\r\n" + body("c", "\r\n"), "Content-Type: multipart/mixed\r\n\r\n", "Content-Type: multipart/mixed\r\nboundary: b\r\n\r\n" + body("b", "\r\n"),
		// One that is too long.
		"Content-Type: multipart/mixed; boundary=\"" + x(71) + "\"\r\n\r\n" + body(x(71), "\r\n"), "Content-Type: multipart/mixed; boundary=\"" + x(72) + "\"\r\n\r\n" + body(x(72), "\r\n"), "Content-Type: multipart/mixed; boundary=\"" + x(71) + "\"\r\n\r\n" + body(x(70), "\r\n"), "Content-Type: multipart/mixed; boundary=" + x(65) + "\r\n\r\n" + body(x(65), "\r\n"), "Content-Type: multipart/mixed; boundary=\"" + x(900) + "\"\r\n\r\n" + body(x(900), "\r\n"),
		// Another one.
		"Content-Type: multipart/mixed; boundary=\"B\"\r\n\r\n" + body("b", "\r\n"), head("b") + body("B", "\r\n"), head("b") + body("c", "\r\n"), head("b") + body("bb", "\r\n"), head("bb") + body("b", "\r\n"), head("b") + body("\"b\"", "\r\n"),
	} {
		refused(t, s, api.ErrForm)
		refused(t, multi("p", "\r\n", s), api.ErrForm)
	}
}

// bodies: raw bodies of the boundary b, and the bodies of the leaves they tell.
func bodies() map[string][]string {
	return map[string][]string{
		"--b\r\n\r\n\r\n--b--\r\n":                                      {""},
		"--b\r\n\r\nx\r\n--b--\r\n":                                     {"x"},
		"--b\r\n\r\nx\r\n\r\n--b--\r\n":                                 {"x\r\n"},
		"--b\r\n\r\n\r\n\r\n--b--\r\n":                                  {"\r\n"},
		"--b\r\n\r\n\r\n\r\n\r\n\r\n--b\r\n\r\n\r\n--b--\r\n":           {"\r\n\r\n\r\n", ""},
		"--b\r\n\r\n\r\n--b\r\n\r\n\r\n--b--\r\n":                       {"", ""},
		"--b\r\n\r\nx\r\n--b\r\n\r\ny\r\n\r\n--b\r\n\r\nz\r\n--b--\r\n": {"x", "y\r\n", "z"},
		// Within a line.
		"--b\r\n\r\nx--b\r\n--b--\r\n":               {"x--b"},
		"--b\r\n\r\n --b\r\n--b--\r\n":               {" --b"},
		"--b\r\n\r\nx--b--\r\n--b--\r\n":             {"x--b--"},
		"--b\r\n\r\nx\r\ny--b\r\nz\r\n--b--\r\n":     {"x\r\ny--b\r\nz"},
		"--b\r\n\r\nx\r\n---b\r\nz\r\n--b--\r\n":     {"x\r\n---b\r\nz"},
		"--b\r\n\r\n.--b--\r\n.--b--\r\n--b--\r\n":   {".--b--\r\n.--b--"},
		"--b\r\n\r\n --b\r\n --b--\r\n--b--\r\n":     {" --b\r\n --b--"},
		"--b\r\n\r\n--\r\nb\r\n--b--\r\n":            {"--\r\nb"},
		"--b\r\n\r\n-b\r\n-- b\r\n--B\r\n--b--\r\n":  {"-b\r\n-- b\r\n--B"},
		"--b\r\n\r\n--c\r\n--c--\r\n--\r\n--b--\r\n": {"--c\r\n--c--\r\n--"},
		// A 13 or a 10 alone is no end.
		"--b\r\n\r\nx\n--b\r\n--b--\r\n":               {"x\n--b"},
		"--b\r\n\r\nx\r--b\r\n--b--\r\n":               {"x\r--b"},
		"--b\r\n\r\nx\n--b\ny\n--b--\n\r\n--b--\r\n":   {"x\n--b\ny\n--b--\n"},
		"--b\r\n\r\nx\n\r--b\r\n--b--\r\n":             {"x\n\r--b"},
		"--b\r\n\r\nx\r\r\n--b--\r\n":                  {"x\r"},
		"--b\r\n\r\nx\n\r\n--b\r\n\r\n\n\r\n--b--\r\n": {"x\n", "\n"},
		"--b\r\n\r\n\r\r\n--b\r\n\r\n\r\r\n--b--\r\n":  {"\r", "\r"},
	}
}

func TestParseOfBodies(t *testing.T) {
	for raw, leaves := range bodies() {
		var parts []api.Part
		for _, leaf := range leaves {
			parts = append(parts, plain(leaf))
		}
		tells(t, head("b")+raw, mixed("b", parts...))
		tells(t, multi("p", "\r\n", head("b")+raw, "\r\n"), mixed("p", plain(""), mixed("b", parts...), plain("")))
		s, p := nested(head("b")+raw, mixed("b", parts...), 3)
		tells(t, s, p)
		// Nothing may stand ahead or behind.
		for _, more := range []string{"x", "\r", "\n", "\r\n", " ", "--", "--b", "x\r\n", "--b\r\n", "\x00", "--b--\r\n"} {
			refused(t, head("b")+raw+more, api.ErrForm)
			refused(t, head("b")+more+raw, api.ErrForm)
		}
	}
}

func wrongBodies() []string {
	return []string{
		"", "x", "\r\n", "--", "--b", "--b\r", "--b\n", "--b\r\n", "--b--", "--b--\r\n", "\r\n--b--\r\n", "b", "b--", "--b\r\n\r\n", "--b\r\n\r\n\r\n",
		// It doesn't begin with a division.
		"x\r\n--b\r\n\r\n\r\n--b--\r\n", "\r\n--b\r\n\r\n\r\n--b--\r\n", "\r\n\r\n\r\n--b\r\n\r\n\r\n--b--\r\n", " --b\r\n\r\n\r\n--b--\r\n", "---b\r\n\r\n\r\n--b--\r\n", "-b\r\n\r\n\r\n--b--\r\n", "b\r\n\r\n\r\n--b--\r\n", "--bx\r\n\r\n\r\n--b--\r\n", "--b \r\n\r\n\r\n--b--\r\n", "--b\t\r\n\r\n\r\n--b--\r\n", "--b--\r\n\r\n\r\n--b--\r\n", "--b--\r\n--b\r\n\r\n\r\n--b--\r\n", "--B\r\n\r\n\r\n--b--\r\n", "--c\r\n\r\n\r\n--b--\r\n", "--b\n\r\n\r\n--b--\r\n", "--b\n\n\n--b--\n", "--b\r\r\n\r\n\r\n--b--\r\n", "\x00--b\r\n\r\n\r\n--b--\r\n", "--\r\n\r\n\r\n--b--\r\n", "- -b\r\n\r\n\r\n--b--\r\n",
		// Nothing between, or an end that would belong to two.
		"--b\r\n--b--\r\n", "--b\r\n--b\r\n--b--\r\n", "--b\r\n--b\r\n\r\n\r\n--b--\r\n", "--b\r\n\r\n\r\n--b\r\n--b--\r\n", "--b\r\n\r\n\r\n--b\r\n--b\r\n\r\n\r\n--b--\r\n",
		// No last division, or not just that.
		"--b\r\n\r\n\r\n--b\r\n", "--b\r\n\r\n\r\n--b", "--b\r\n\r\n\r\n--b-", "--b\r\n\r\n\r\n--b--", "--b\r\n\r\n\r\n--b--\r", "--b\r\n\r\n\r\n--b--\n", "--b\r\n\r\n\r\n--b--\n\r\n", "--b\r\n\r\n\r\n--b-\r\n", "--b\r\n\r\n\r\n--b---\r\n", "--b\r\n\r\n\r\n--b-- \r\n", "--b\r\n\r\n\r\n--b --\r\n", "--b\r\n\r\n\r\n--b--x\r\n", "--b\r\n\r\n\r\n--bx--\r\n", "--b\r\n\r\n\r\n--B--\r\n", "--b\r\n\r\n\r\n ---b--\r\n", "--b\r\n\r\nx--b--\r\n", "--b\r\n\r\n\n--b--\r\n", "--b\r\n\r\n\r--b--\r\n", "--b\r\n\r\nx", "--b\r\n\r\nx\r\n", "--b\r\n\r\n\r\n--\r\n", "--b\r\n\r\n\r\n----\r\n", "--b\r\n\r\n\r\nb--\r\n", "--b\r\n\r\n\r\n-b--\r\n", "--b\r\n\r\n\r\n--c--\r\n",
		// More behind it.
		"--b\r\n\r\n\r\n--b--\r\n\r\n", "--b\r\n\r\n\r\n--b--\r\nx", "--b\r\n\r\n\r\n--b--\r\nx\r\n", "--b\r\n\r\n\r\n--b--\r\n--b--\r\n", "--b\r\n\r\n\r\n--b--\r\n\r\n--b--\r\n", "--b\r\n\r\n\r\n--b--\r\n--b\r\n", "--b\r\n\r\n\r\n--b--\r\n\r\n--b\r\n\r\n\r\n--b--\r\n", "--b\r\n\r\n\r\n--b--\r\n--b\r\n\r\n\r\n--b--\r\n", "--b\r\n\r\n\r\n--b--\r\n\x00",
		// At the beginning of a line that isn't a division.
		"--b\r\n\r\n--bx\r\n--b--\r\n", "--b\r\n\r\nx\r\n--bx\r\n--b--\r\n", "--b\r\n\r\nx\r\n--bc\r\n\r\n--b--\r\n", "--b\r\n\r\nx\r\n--b x\r\ny\r\n--b--\r\n", "--b\r\n\r\nx\r\n--b \r\n--b--\r\n", "--b\r\n\r\nx\r\n--b-\r\n--b--\r\n", "--b\r\n\r\nx\r\n--b---\r\n--b--\r\n", "--b\r\n\r\nx\r\n--b--x\r\n--b--\r\n", "--b\r\n\r\nx\r\n--b--\r\n--b--\r\n", "--b\r\n\r\nx\r\n--b--\r\ny\r\n--b--\r\n", "--b\r\n\r\nx\r\n--b\ny\r\n--b--\r\n", "--b\r\n\r\nx\r\n--b\r\r\ny\r\n--b--\r\n", "--b\r\n--bx: y\r\n\r\n\r\n--b--\r\n", "--b\r\nA: b\r\n--b: y\r\n\r\n\r\n--b--\r\n", "--b\r\n\r\n--bx\r\n\r\n--b\r\n\r\n\r\n--b--\r\n", "--b\r\n\r\n\r\n--b\r\n\r\n\r\n--bx\r\n\r\n--b--\r\n", "--b\r\n\r\n\r\n--b\r\n--b: x\r\n\r\n\r\n--b--\r\n",
	}
}

// wrongParts: raw bodies that are as said, but with a part's text that is none: an empty one, or another one.
func wrongParts() []string {
	return []string{"--b\r\n\r\n--b--\r\n", "--b\r\n\r\n--b\r\n\r\n--b--\r\n", "--b\r\n\r\n\r\n--b\r\n\r\n--b--\r\n", "--b\r\n\r\n--b\r\n\r\n\r\n--b--\r\n", "--b\r\nx\r\n--b--\r\n", "--b\r\nx\r\n\r\n--b--\r\n", "--b\r\n\r\r\n--b--\r\n", "--b\r\n\n\r\n--b--\r\n", "--b\r\na: b\r\n--b--\r\n", "--b\r\na: b\r\n\r\n--b--\r\n", "--b\r\n--c\r\n\r\n\r\n--b--\r\n"}
}

func TestParseOfWrongBodies(t *testing.T) {
	for _, raw := range append(wrongBodies(), wrongParts()...) {
		refused(t, head("b")+raw, api.ErrForm)
		refused(t, "Subject: x\r\n"+head("b")+raw, api.ErrForm)
		refused(t, multi("p", "\r\n", head("b")+raw, "\r\n"), api.ErrForm)
		refused(t, inMultiparts(head("b")+raw, 3), api.ErrForm)
		// Of a leaf it is but bytes.
		tells(t, "\r\n"+raw, plain(raw))
	}
}

// TestParseOfLikeBoundaries: of an outer and an inner one.
func TestParseOfLikeBoundaries(t *testing.T) {
	for _, inner := range []string{"b", "bc", "b-", "b--", "b.", "bb"} {
		// The inner one's divisions begin as the outer one's, and aren't some.
		refused(t, multi("b", multi(inner, "\r\n")), api.ErrForm)
		refused(t, multi("b", multi(inner, "\r\n"), "\r\n"), api.ErrForm)
		refused(t, multi("b", "\r\n", multi(inner, "\r\n", "\r\nx")), api.ErrForm)
		refused(t, multi("b", multi("c", multi(inner, "\r\n"))), api.ErrForm)
	}
	for _, outer := range []string{"bc", "b.", "bb", "b-x", "b---"} {
		tells(t, multi(outer, multi("b", "\r\n"), "\r\nx"), mixed(outer, mixed("b", plain("")), plain("x")))
		tells(t, multi(outer, "\r\n--b\r\n\r\n--b--"), mixed(outer, plain("--b\r\n\r\n--b--")))
	}
	// The inner one's last division begins as the outer one's divisions.
	for _, outer := range []string{"b-", "b--"} {
		refused(t, multi(outer, multi("b", "\r\n")), api.ErrForm)
		refused(t, multi(outer, "\r\n--b--"), api.ErrForm)
		tells(t, multi(outer, "\r\n--b"), mixed(outer, plain("--b")))
	}
	// Within a line, or of a leaf.
	tells(t, multi("b", multi("ab", "\r\nx--b\r\n"), multi("c", "\r\n")), mixed("b", mixed("ab", plain("x--b\r\n")), mixed("c", plain(""))))
	refused(t, multi("bc", multi("b", "\r\n--bc\r\n")), api.ErrForm)
	refused(t, multi("bc", multi("b", "\r\n--bcd\r\n")), api.ErrForm)
	refused(t, multi("c", multi("b", "\r\n--bc\r\n")), api.ErrForm)
	// Beside one another they may be the same.
	tells(t, multi("a", multi("b", "\r\n1"), multi("b", "\r\n2"), multi("bb", "\r\n3")), mixed("a", mixed("b", plain("1")), mixed("b", plain("2")), mixed("bb", plain("3"))))
	refused(t, multi("-", multi("--", "\r\n")), api.ErrForm)
	refused(t, multi("---", multi("-", "\r\n")), api.ErrForm)
	tells(t, multi("----", multi("-", "\r\n")), mixed("----", mixed("-", plain(""))))
}

// wrongTexts: texts that are refused, each by itself.
func wrongTexts() map[string]api.Errno {
	return map[string]api.Errno{
		"":                                      api.ErrForm,
		"x":                                     api.ErrForm,
		"a: b\r\n":                              api.ErrForm,
		"a\r\n\r\n":                             api.ErrForm,
		" a: b\r\n\r\n":                         api.ErrForm,
		"a b: c\r\n\r\n":                        api.ErrForm,
		"a: \x00\r\n\r\n":                       api.ErrForm,
		"a: " + x(996) + "\r\n\r\n":             api.ErrLong,
		x(999) + "\r\n\r\n":                     api.ErrLong,
		x(999) + "\r\n":                         api.ErrForm,
		strings.Repeat("a: b\r\n", 65) + "\r\n": api.ErrLong,
		strings.Repeat("a: b\r\n", 65) + "c\r\n\r\n":                    api.ErrForm,
		strings.Repeat("a: b\r\n", 65):                                  api.ErrForm,
		strings.Repeat("a: b\r\n", 65) + "Content-Type: x\r\n\r\n":      api.ErrLong,
		"Content-Type: x\r\n" + strings.Repeat("a: b\r\n", 64) + "\r\n": api.ErrLong,
		"Content-Type: x\r\na: " + x(996) + "\r\n\r\n":                  api.ErrLong,
		"Content-Type: x\r\n\r\n":                                       api.ErrForm,
		"Content-Transfer-Encoding: x\r\n\r\n":                          api.ErrForm,
		"Content-Transfer-Encoding: base64\r\n\r\nx":                    api.ErrForm,
		"Content-Transfer-Encoding: quoted-printable\r\n\r\n=":          api.ErrForm,
		head("w"):                               api.ErrForm,
		head("w") + "x":                         api.ErrForm,
		multi("w"):                              api.ErrForm,
		multi("w", ""):                          api.ErrForm,
		multi("w", "x"):                         api.ErrForm,
		multi("w", "\r\n") + "x":                api.ErrForm,
		multi("w", "a: "+x(996)+"\r\n\r\n"):     api.ErrLong,
		multi("w", "a: "+x(996)+"\r\n\r\n", ""): api.ErrLong,
		multi("w", "", "a: "+x(996)+"\r\n\r\n"): api.ErrForm,
		"Content-Transfer-Encoding: base64\r\n" + multi("w", "a: "+x(996)+"\r\n\r\n"): api.ErrForm,
		"a: " + x(996) + "\r\n" + multi("w", "x"):                                     api.ErrLong,
		// The body is wrong, ahead of its parts being looked at.
		head("w") + "--w\r\na: " + x(996) + "\r\n\r\n\r\n--w--":            api.ErrForm,
		head("w") + "--w\r\na: " + x(996) + "\r\n\r\n\r\n--w\r\n--w--\r\n": api.ErrForm,
		multi("w", slices.Repeat([]string{"\r\n"}, 16)...):                 api.ErrLong,
		multi("w", slices.Repeat([]string{"\r\n"}, 16)...) + "x":           api.ErrForm,
	}
}

func TestParseOfWrongTexts(t *testing.T) {
	for s, e := range wrongTexts() {
		refused(t, s, e)
		refused(t, multi("p", s), e)
		refused(t, multi("p", "\r\n", s, "\r\n"), e)
		refused(t, multi("p", multi("q", "\r\n", "\r\n"), s), e)
	}
	tells(t, "a: "+x(995)+"\r\n\r\n", plain("", "a", x(995)))
	tells(t, strings.Repeat("a: b\r\n", 64)+"\r\n", plain("", slices.Repeat([]string{"a", "b"}, 64)...))
}

// TestTheFirstErrorCounts: of two wrong parts, in order, the outer one ahead of its parts.
func TestTheFirstErrorCounts(t *testing.T) {
	for first, e := range wrongTexts() {
		for second := range wrongTexts() {
			refused(t, multi("p", first, second), e)
			refused(t, multi("p", "\r\n", first, second, "\r\n"), e)
			refused(t, multi("p", multi("q", first), second), e)
			refused(t, multi("p", multi("q", "\r\n", first), multi("r", second)), e)
		}
		// The outer one's own.
		refused(t, multi("p", first)+"x", api.ErrForm)
		refused(t, multi("p", first, "\r\n--p "), api.ErrForm)
		refused(t, "Content-Transfer-Encoding: base64\r\n"+multi("p", first), api.ErrForm)
		refused(t, "a: "+x(996)+"\r\n"+multi("p", first), api.ErrLong)
		refused(t, "b\r\n"+multi("p", first), api.ErrForm)
		refused(t, multi("p", multi("q", first)+"x"), api.ErrForm)
		// A deep one ahead, or behind.
		refused(t, multi("p", inMultiparts("\r\n", 4), first), api.ErrDeep)
		refused(t, multi("p", first, inMultiparts("\r\n", 4)), e)
		refused(t, inMultiparts(multi("p", first), 4), api.ErrDeep)
	}
}

// TestErrorsOfDeepParts: a part within four others is looked at, then it is too deep, then its parts are looked at.
func TestErrorsOfDeepParts(t *testing.T) {
	for _, raw := range wrongBodies() {
		refused(t, inMultiparts(head("b")+raw, 4), api.ErrForm)
	}
	for _, raw := range wrongParts() {
		refused(t, inMultiparts(head("b")+raw, 3), api.ErrForm)
		refused(t, inMultiparts(head("b")+raw, 4), api.ErrDeep)
	}
	for _, s := range []string{"Content-Type: multipart/mixed\r\n\r\n", "Content-Transfer-Encoding: base64\r\n" + multi("b", "\r\n"), "Content-Transfer-Encoding: x\r\n" + multi("b", "\r\n"), "Content-Type: x\r\n" + multi("b", "\r\n"), "x\r\n" + multi("b", "\r\n"), multi("b", "\r\n") + "x"} {
		refused(t, inMultiparts(s, 4), api.ErrForm)
	}
	refused(t, inMultiparts("a: "+x(996)+"\r\n"+multi("b", "\r\n"), 4), api.ErrLong)
	for _, s := range []string{"", "x", "\r\n", "Content-Type: x\r\n\r\n", "a: " + x(996) + "\r\n\r\n", multi("c", ""), multi("c", "\r\n")} {
		refused(t, inMultiparts(multi("b", s), 4), api.ErrDeep)
	}
}

// TestErrorsOfThe17th: it isn't looked at, but what comes ahead of it is.
func TestErrorsOfThe17th(t *testing.T) {
	for s, e := range wrongTexts() {
		for at := range 18 {
			texts := slices.Repeat([]string{"\r\n"}, 18)
			texts[at] = s
			switch {
			case at < 14:
				refused(t, multi("p", texts...), e)
			case at == 14:
				// The 16th, whose own first part may be the 17th.
				agrees(t, multi("p", texts...))
			default:
				refused(t, multi("p", texts...), api.ErrLong)
			}
		}
	}
	// The 16th part is a multipart: its first one is the 17th.
	texts := slices.Repeat([]string{"\r\n"}, 14)
	refused(t, multi("p", append(texts, multi("q", "\r\n"))...), api.ErrLong)
	refused(t, multi("p", append(texts, multi("q", "x"))...), api.ErrLong)
	refused(t, multi("p", append(texts, head("q"))...), api.ErrForm)
	refused(t, multi("p", append(texts, multi("q", "x"), "a: "+x(996)+"\r\n\r\n")...), api.ErrLong)
	tells(t, multi("p", append(texts[:13], multi("q", "\r\n"))...), mixed("p", append(slices.Repeat([]api.Part{plain("")}, 13), mixed("q", plain("")))...))
	// The 17th within four others.
	texts = slices.Repeat([]string{"\r\n"}, 12)
	refused(t, inMultiparts(multi("p", append(texts, multi("q", "\r\n"))...), 3), api.ErrLong)
	refused(t, inMultiparts(multi("p", append(texts[:11], multi("q", "\r\n"))...), 3), api.ErrDeep)
	refused(t, inMultiparts(multi("p", append(texts[:11], "\r\n", "x")...), 3), api.ErrLong)
}
