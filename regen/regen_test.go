package regen

import (
	"slices"
	"strings"
	"testing"

	"mailguard/api"
)

// leaf has fields told as a name and a body, a name and a body.
func leaf(first, second, body string, fields ...string) api.Part {
	p := api.Part{Type: api.Type{Main: first, Sub: second}, Body: body}
	for pair := range slices.Chunk(fields, 2) {
		p.Fields = append(p.Fields, api.Field{Name: pair[0], Body: pair[1]})
	}
	return p
}

// plain is a leaf text/plain, image one image/png.
func plain(body string, fields ...string) api.Part { return leaf("text", "plain", body, fields...) }
func image(body string, fields ...string) api.Part { return leaf("image", "png", body, fields...) }

// mixed is a multipart/mixed without fields or parameters.
func mixed(parts ...api.Part) api.Part {
	p := leaf("multipart", "mixed", "")
	p.Parts = parts
	return p
}

// titled is a part with fields more.
func titled(p api.Part, fields ...string) api.Part {
	p.Fields = append(slices.Clip(p.Fields), leaf("", "", "", fields...).Fields...)
	return p
}

// with is a part with parameters more, told as a name and a value, a name and a value.
func with(p api.Part, params ...string) api.Part {
	p.Type.Params = slices.Clip(p.Type.Params)
	for pair := range slices.Chunk(params, 2) {
		p.Type.Params = append(p.Type.Params, api.Param{Name: pair[0], Value: pair[1]})
	}
	return p
}

// nested is a part within so many multiparts.
func nested(p api.Part, count int) api.Part {
	for range count {
		p = mixed(p)
	}
	return p
}

const (
	plainHead = "Content-Type: text/plain\r\nContent-Transfer-Encoding: quoted-printable\r\n\r\n"
	imageHead = "Content-Type: image/png\r\nContent-Transfer-Encoding: base64\r\n\r\n"
)

// mixedHead is the header of a mixed one of that number.
func mixedHead(number string) string {
	return "Content-Type: multipart/mixed; boundary=\"=_" + number + "\"\r\n\r\n"
}

// body is the raw body of a multipart.
func body(number string, texts ...string) string {
	var s strings.Builder
	for _, text := range texts {
		s.WriteString("--=_" + number + "\r\n" + text + "\r\n")
	}
	return s.String() + "--=_" + number + "--\r\n"
}

func TestPrintOfLeaves(t *testing.T) {
	tells(t, plain("hello"), plainHead+"hello")
	tells(t, plain(""), plainHead)
	tells(t, plain("\r\n"), plainHead+"\r\n")
	tells(t, plain("a=b\r\nc "), plainHead+"a=3Db\r\nc=20")
	tells(t, plain("a\nb\rc\x00\xff"), plainHead+"a=0Ab=0Dc=00=FF")
	tells(t, plain("--=_0\r\n--=_0--\r\n"), plainHead+"--=3D_0\r\n--=3D_0--\r\n")
	tells(t, plain(x(77)), plainHead+x(75)+"=\r\nxx")
	tells(t, image("hello"), imageHead+"aGVsbG8=\r\n")
	tells(t, image(""), imageHead)
	tells(t, image("\r\n"), imageHead+"DQo=\r\n")
	tells(t, image(strings.Repeat("\x00", 58)), imageHead+strings.Repeat("A", 76)+"\r\nAA==\r\n")
	tells(t, plain("hello", "Subject", "x"), "Subject: x\r\n"+plainHead+"hello")
	tells(t, image("hello", "B", "2", "A", "1", "B", ""), "B: 2\r\nA: 1\r\nB:\r\n"+imageHead+"aGVsbG8=\r\n")
	tells(t, leaf("message", "rfc822", "a: b\r\n\r\n"), "Content-Type: message/rfc822\r\nContent-Transfer-Encoding: base64\r\n\r\nYTogYg0KDQo=\r\n")
}

// TestCodingOfTypes: of text alone, as it is, the coding is quoted-printable, whatever else the type has.
func TestCodingOfTypes(t *testing.T) {
	for _, sub := range []string{"plain", "html", "x", "multipart", "base64", x(64)} {
		tells(t, leaf("text", sub, "a"), "Content-Type: text/"+sub+"\r\nContent-Transfer-Encoding: quoted-printable\r\n\r\na")
	}
	for _, main := range []string{"image", "tex", "t", "texts", "text.", "-text", "message", "application", "multi", "multiparts", "multipart.", x(64)} {
		for _, sub := range []string{"text", "plain", "multipart", "mixed"} {
			tells(t, leaf(main, sub, "a"), "Content-Type: "+main+"/"+sub+"\r\nContent-Transfer-Encoding: base64\r\n\r\nYQ==\r\n")
		}
	}
	tells(t, with(leaf("image", "png", "a"), "text", "text"), "Content-Type: image/png; text=text\r\nContent-Transfer-Encoding: base64\r\n\r\nYQ==\r\n")
	for _, main := range []string{"Text", "TEXT", "texT", "tExt", " text", "text ", "text/", "te\xd7t", "\u212a", ""} {
		refused(t, leaf(main, "plain", "a"), api.ErrForm)
		refused(t, leaf("text", main, "a"), api.ErrForm)
		refused(t, mixed(plain("b"), leaf(main, "plain", "a")), api.ErrForm)
	}
}

func TestParametersOfLeaves(t *testing.T) {
	tells(t, with(plain("a"), "charset", "utf-8"), "Content-Type: text/plain; charset=utf-8\r\nContent-Transfer-Encoding: quoted-printable\r\n\r\na")
	tells(t, with(plain("a"), "name", "A \"b\"", "e", ""), "Content-Type: text/plain; name=\"A \\\"b\\\"\"; e=\"\"\r\nContent-Transfer-Encoding: quoted-printable\r\n\r\na")
	// A boundary of a leaf is as any other parameter.
	for _, value := range []string{"b", "_0", x(36)} {
		tells(t, with(plain("a"), "boundary", value), "Content-Type: text/plain; boundary="+value+"\r\nContent-Transfer-Encoding: quoted-printable\r\n\r\na")
	}
	tells(t, with(image("a"), "k", "v", "boundary", "=_7", "l", "w"), "Content-Type: image/png; k=v; boundary=\"=_7\"; l=w\r\nContent-Transfer-Encoding: base64\r\n\r\nYQ==\r\n")
	tells(t, with(image("a"), "boundary", ""), "Content-Type: image/png; boundary=\"\"\r\nContent-Transfer-Encoding: base64\r\n\r\nYQ==\r\n")
	// A type that goes over a line is folded.
	tells(t, with(image("a"), "boundary", x(70), "k", "v"), "Content-Type: image/png;\r\n boundary=\""+x(70)+"\";\r\n k=v\r\nContent-Transfer-Encoding: base64\r\n\r\nYQ==\r\n")
	all := []string{"a", x(70), "b", strings.Repeat("\\", 70), "c", strings.Repeat(" ", 70), "d", "  x  y  ", "e", "\"", "f", x(64), "g", "~ ~", "boundary", " "}
	ends(t, with(plain("a"), all...), api.OK)
	ends(t, with(image("a"), all...), api.OK)
	ends(t, mixed(with(plain("a"), all...), with(image("a"), all...)), api.OK)
	ends(t, with(mixed(plain("a")), all...), api.OK)
}

// gone: fields that don't go into a canonical tree, whatever they say; a body of them that isn't right isn't looked at.
func gone() []string {
	return []string{"Content-Type", "gone/x", "content-type", "", "CONTENT-TYPE", "multipart/mixed; boundary=b", "cONTENT-tYPE", " \r\n", "Content-Transfer-Encoding", "8bit", "content-transfer-encoding", "gone", "CONTENT-TRANSFER-ENCODING", "\x00", "content-Transfer-encodinG", x(2000)}
}

func TestFieldsOfTypeAndCoding(t *testing.T) {
	for i := 0; i < len(gone()); i += 2 {
		f := gone()[i : i+2]
		tells(t, plain("a", f...), plainHead+"a")
		tells(t, image("a", f...), imageHead+"YQ==\r\n")
		tells(t, titled(mixed(plain("a", f...)), f...), mixedHead("0")+body("0", plainHead+"a"))
		tells(t, plain("a", "A", "1", f[0], f[1], "B", "2"), "A: 1\r\nB: 2\r\n"+plainHead+"a")
		tells(t, plain("a", f[0], f[1], f[0], f[1], "B", "2", f[0], f[1]), "B: 2\r\n"+plainHead+"a")
		tells(t, titled(mixed(plain("a")), "A", "1", f[0], f[1], "B", "2"), "A: 1\r\nB: 2\r\n"+mixedHead("0")+body("0", plainHead+"a"))
	}
	all := append(append([]string{"A", "1"}, gone()...), "B", "2")
	tells(t, plain("a", all...), "A: 1\r\nB: 2\r\n"+plainHead+"a")
	tells(t, titled(mixed(image("a", all...)), all...), "A: 1\r\nB: 2\r\n"+mixedHead("0")+body("0", "A: 1\r\nB: 2\r\n"+imageHead+"YQ==\r\n"))
	// Names that are almost so stay.
	for _, name := range []string{"Content-Types", "Content-Typ", "ontent-Type", "Content_Type", "X-Content-Type", "Content-Transfer-Encodings", "Content-Transfer", "ContentTransferEncoding", "Content-\xd4ype", "Content-Type\xff"} {
		if strings.ContainsAny(name, "\xd4\xff") {
			refused(t, plain("a", name, "b"), api.ErrForm)
			continue
		}
		tells(t, plain("a", name, "b"), name+": b\r\n"+plainHead+"a")
		tells(t, titled(mixed(plain("a")), name, "b"), name+": b\r\n"+mixedHead("0")+body("0", plainHead+"a"))
	}
	for _, name := range []string{"Content-Type ", " Content-Type", "Content-Type:", "Content-Type\t", "\u212aontent-Type", "Content-Transfer-Encoding ", "Content-Tran\u017ffer-Encoding", "Content-Type\r\n"} {
		refused(t, plain("a", name, "b"), api.ErrForm)
		refused(t, mixed(image("a"), plain("a", name, "b")), api.ErrForm)
		refused(t, titled(mixed(plain("a")), name, "b"), api.ErrForm)
	}
}

func TestPrintOfMultiparts(t *testing.T) {
	a, b, i := plainHead+"a", plainHead+"b\r\n", imageHead+"YQ==\r\n"
	tells(t, mixed(plain("a")), mixedHead("0")+"--=_0\r\n"+a+"\r\n--=_0--\r\n")
	tells(t, mixed(plain("a"), image("a"), plain("b\r\n")), mixedHead("0")+"--=_0\r\n"+a+"\r\n--=_0\r\n"+i+"\r\n--=_0\r\n"+b+"\r\n--=_0--\r\n")
	tells(t, mixed(plain("")), mixedHead("0")+body("0", plainHead))
	tells(t, mixed(image(""), image("")), mixedHead("0")+body("0", imageHead, imageHead))
	tells(t, mixed(plain("b\r\n"), plain("a")), mixedHead("0")+body("0", b, a))
	tells(t, mixed(plain("a"), plain("a")), mixedHead("0")+body("0", a, a))
	tells(t, titled(mixed(plain("a", "C", "3")), "A", "1", "B", "2"), "A: 1\r\nB: 2\r\n"+mixedHead("0")+body("0", "C: 3\r\n"+a))
	tells(t, mixed(mixed(plain("a"))), mixedHead("1")+body("1", mixedHead("0")+body("0", a)))
	tells(t, mixed(mixed(plain("a")), mixed(plain("b\r\n"))), mixedHead("1")+body("1", mixedHead("0")+body("0", a), mixedHead("0")+body("0", b)))
	tells(t, mixed(plain("a"), mixed(image("a")), plain("b\r\n")), mixedHead("1")+body("1", a, mixedHead("0")+body("0", i), b))
	tells(t, nested(plain("a"), 4), mixedHead("3")+body("3", mixedHead("2")+body("2", mixedHead("1")+body("1", mixedHead("0")+body("0", a)))))
	p := mixed(plain("a"))
	p.Type.Sub = "alternative"
	tells(t, p, "Content-Type: multipart/alternative; boundary=\"=_0\"\r\n\r\n"+body("0", a))
	p.Type.Sub = "text"
	tells(t, p, "Content-Type: multipart/text; boundary=\"=_0\"\r\n\r\n"+body("0", a))
}

// boundaries: what a multipart's own boundary may be, which another one takes the place of.
func boundaries() []string {
	return []string{"", "b", "=_0", "=_1", "=_9", "_0", " ", "B c", "\"", "\\", x(64), x(70), strings.Repeat("~", 70), "boundary"}
}

func TestParametersOfMultiparts(t *testing.T) {
	text := body("0", plainHead+"a")
	head := func(params string) string { return "Content-Type: multipart/mixed" + params + "\r\n\r\n" }
	p := mixed(plain("a"))
	for _, b := range boundaries() {
		tells(t, with(p, "boundary", b), head("; boundary=\"=_0\"")+text)
		tells(t, with(p, "boundary", b, "k", "v"), head("; boundary=\"=_0\"; k=v")+text)
		tells(t, with(p, "k", "v", "boundary", b), head("; k=v; boundary=\"=_0\"")+text)
		tells(t, with(p, "k", "v", "boundary", b, "l", "W"), head("; k=v; boundary=\"=_0\"; l=\"W\"")+text)
		tells(t, with(p, "z", "1", "y", "2", "boundary", b, "b", "3", "a", "4"), head("; z=1; y=2; boundary=\"=_0\"; b=3; a=4")+text)
		tells(t, mixed(with(p, "boundary", b)), mixedHead("1")+body("1", mixedHead("0")+text))
	}
	tells(t, with(p, "k", "v"), head("; k=v; boundary=\"=_0\"")+text)
	tells(t, with(p, "k", "v", "l", ""), head("; k=v; l=\"\"; boundary=\"=_0\"")+text)
	tells(t, with(p, "k", "boundary", "boundary.", "b", "-boundary", "c"), head("; k=boundary; boundary.=b; -boundary=c;\r\n boundary=\"=_0\"")+text)
	// At most 8 of them, the boundary counted.
	seven := []string{"a", "1", "b", "2", "c", "3", "d", "4", "e", "5", "f", "6", "g", "7"}
	tells(t, with(p, seven...), head("; a=1; b=2; c=3; d=4; e=5; f=6; g=7;\r\n boundary=\"=_0\"")+text)
	for place := 0; place <= len(seven); place += 2 {
		ends(t, with(p, slices.Insert(slices.Clone(seven), place, "boundary", "b")...), api.OK)
		refused(t, with(p, slices.Insert(slices.Clone(seven), place, "h", "8")...), api.ErrForm)
		refused(t, mixed(plain(""), with(p, slices.Insert(slices.Clone(seven), place, "h", "8")...)), api.ErrForm)
		refused(t, with(p, slices.Insert(slices.Clone(seven), place, "boundary", "b", "h", "8")...), api.ErrForm)
		ends(t, with(plain("a"), slices.Insert(slices.Clone(seven), place, "h", "8")...), api.OK)
	}
	// A boundary that isn't right isn't mended.
	for _, b := range []string{x(71), "\x00", "\t", "\r\n", "\x7f", "\xff", "caf\xc3\xa9"} {
		refused(t, with(p, "boundary", b), api.ErrForm)
		refused(t, with(p, "k", "v", "boundary", b), api.ErrForm)
		refused(t, mixed(with(p, "boundary", b)), api.ErrForm)
	}
	for _, name := range []string{"Boundary", "BOUNDARY", "boundary ", "boundary="} {
		refused(t, with(p, name, "b"), api.ErrForm)
	}
	refused(t, with(p, "boundary", "b", "boundary", "b"), api.ErrForm)
	refused(t, with(p, "boundary", "b", "k", "v", "boundary", "c"), api.ErrForm)
}

// TestCanon: the tree itself, not only what its text tells.
func TestCanon(t *testing.T) {
	p := titled(with(mixed(plain("a=b\r\n", "Content-Type", "x", "A", "1"), image("\x00\r\n", "CONTENT-TRANSFER-ENCODING", "8bit")), "k", "v w"), "Content-type", "y", "B", "2")
	want := titled(with(mixed(
		titled(plain("a=b\r\n"), "A", "1", "Content-Type", "text/plain", "Content-Transfer-Encoding", "quoted-printable"),
		titled(image("\x00\r\n"), "Content-Type", "image/png", "Content-Transfer-Encoding", "base64"),
	), "k", "v w", "boundary", "=_0"), "B", "2", "Content-Type", "multipart/mixed; k=\"v w\"; boundary=\"=_0\"")
	text := "B: 2\r\nContent-Type: multipart/mixed; k=\"v w\"; boundary=\"=_0\"\r\n\r\n--=_0\r\nA: 1\r\n" + plainHead + "a=3Db\r\n\r\n--=_0\r\n" + imageHead + "AA0K\r\n\r\n--=_0--\r\n"
	gives(t, p, want, text, api.OK)
	gives(t, want, want, text, api.OK)
	tells(t, p, text)
	gives(t, plain("hello"), plain("hello", "Content-Type", "text/plain", "Content-Transfer-Encoding", "quoted-printable"), plainHead+"hello", api.OK)
}

// TestEmptyLists: nil or not, they mean the same.
func TestEmptyLists(t *testing.T) {
	for _, p := range []api.Part{plain("a"), image("")} {
		_, text, _ := slowMake(p)
		p.Fields, p.Type.Params, p.Parts = []api.Field{}, []api.Param{}, []api.Part{}
		tells(t, p, text)
		p.Fields, p.Type.Params, p.Parts = titled(p, "a", "b").Fields[:0], with(p, "a", "b").Type.Params[:0], mixed(p).Parts[:0]
		tells(t, p, text)
		tells(t, mixed(p), mixedHead("0")+body("0", text))
	}
	refused(t, api.Part{}, api.ErrForm)
	p := mixed()
	refused(t, p, api.ErrForm)
	p.Parts = []api.Part{}
	refused(t, p, api.ErrForm)
}
