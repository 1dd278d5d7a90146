package regen

import (
	"fmt"
	"slices"
	"strings"
	"testing"

	"mailguard/api"
)

// several is so many leaves.
func several(count int) []api.Part { return slices.Repeat([]api.Part{plain("a")}, count) }

func TestDepth(t *testing.T) {
	for count := range 12 {
		want := api.OK
		if count > 4 {
			want = api.ErrDeep
		}
		p := nested(plain("a"), count)
		ends(t, p, want)
		// Beside others, ahead of them or behind them.
		ends(t, mixed(plain("a"), nested(plain("a"), max(count-1, 0)), image("b")), want)
		ends(t, mixed(plain("a"), mixed(image("b")), nested(plain("a"), max(count-1, 0))), want)
		ends(t, mixed(nested(plain("a"), max(count-1, 0)), plain("c")), want)
	}
	// Of those within four others, only one with parts is too deep.
	ends(t, nested(mixed(plain("a"), image("b"), plain("c")), 3), api.OK)
	refused(t, nested(mixed(plain("a"), plain("b"), mixed(plain("c"))), 3), api.ErrDeep)
	refused(t, nested(mixed(mixed(plain("c")), plain("a")), 3), api.ErrDeep)
	p := plain("a")
	p.Parts = []api.Part{}
	ends(t, nested(p, 4), api.OK)
	// What its type says is not asked: the parts are.
	refused(t, nested(mixed(), 4), api.ErrForm)
	p.Parts = several(1)
	refused(t, nested(p, 3), api.ErrForm)
	refused(t, nested(p, 4), api.ErrDeep)
	p = api.Part{Parts: make([]api.Part, 1)}
	for range 4 {
		p = api.Part{Parts: []api.Part{p}}
	}
	refused(t, p, api.ErrDeep)
	refused(t, p.Parts[0], api.ErrForm)
}

// TestGreatTrees: that go deeper, and have more parts, than what could be gone through step by step in little room.
func TestGreatTrees(t *testing.T) {
	for _, p := range []api.Part{nested(plain("a"), 1<<16), mixed(nested(plain("a"), 3), nested(api.Part{}, 1<<16-1), plain("b"))} {
		if s, e := Print(p); s != "" || e != api.ErrDeep {
			t.Error(brief(s), e)
		}
		if c, e := Canon(p); whole(c) != whole(api.Part{}) || e != api.ErrDeep {
			t.Error(brief(whole(c)), e)
		}
	}
	wide := mixed(make([]api.Part, 1<<20)...)
	for want, p := range map[api.Errno]api.Part{api.ErrLong: wide, api.ErrDeep: mixed(wide, nested(plain("a"), 4))} {
		if s, e := Print(p); s != "" || e != want {
			t.Error(brief(s), e)
		}
		if c, e := Canon(p); whole(c) != whole(api.Part{}) || e != want {
			t.Error(brief(whole(c)), e)
		}
	}
	great := x(1 << 18)
	for _, p := range []api.Part{plain(great), image(great), plain("", "A", great), plain("a", slices.Repeat([]string{"A", x(900)}, 1<<12)...)} {
		refused(t, p, api.ErrLong)
		refused(t, mixed(plain("a"), p), api.ErrLong)
	}
	for _, p := range []api.Part{plain("", great, "a"), leaf(great, "a", ""), leaf("a", great, ""), with(plain("a"), great, "a"), with(plain("a"), "a", great)} {
		refused(t, p, api.ErrForm)
	}
}

func TestCountOfParts(t *testing.T) {
	for count := 1; count < 40; count++ {
		want := api.OK
		if count > 15 {
			want = api.ErrLong
		}
		ends(t, mixed(several(count)...), want)
		ends(t, mixed(mixed(several(count-1)...)), map[bool]api.Errno{true: api.ErrForm, false: want}[count == 1])
		for inner := 1; inner < count-1; inner++ {
			ends(t, mixed(append(several(count-1-inner), mixed(several(inner)...))...), want)
			ends(t, mixed(append([]api.Part{mixed(several(inner)...)}, several(count-1-inner)...)...), want)
		}
	}
	ends(t, mixed(mixed(several(4)...), mixed(several(4)...), mixed(several(4)...)), api.OK)
	refused(t, mixed(mixed(several(4)...), mixed(several(4)...), mixed(several(4)...), plain("")), api.ErrLong)
	ends(t, nested(mixed(several(12)...), 3), api.OK)
	refused(t, nested(mixed(several(13)...), 3), api.ErrLong)
	// Wrong ones count, too.
	refused(t, mixed(make([]api.Part, 15)...), api.ErrForm)
	refused(t, mixed(make([]api.Part, 16)...), api.ErrLong)
	p := plain("")
	p.Parts = several(15)
	refused(t, p, api.ErrForm)
	p.Parts = several(16)
	refused(t, p, api.ErrLong)
}

// wrongParts: of each one thing isn't as it must be, so that it is ErrForm.
func wrongParts() []api.Part {
	bodied, unbounded, mixing := mixed(plain("a")), mixed(plain("a")), plain("a")
	bodied.Body = "x"
	mixing.Parts = several(1)
	nine := []string{"a", "1", "b", "2", "c", "3", "d", "4", "e", "5", "f", "6", "g", "7", "h", "8"}
	all := []api.Part{
		{}, leaf("multipart", "mixed", ""), leaf("multipart", "x", "--b"), leaf("multipart", "x", "", "A", "b"), with(leaf("multipart", "mixed", ""), "boundary", "b"), bodied, with(bodied, "boundary", "b"), mixing,
		leaf("", "plain", "a"), leaf("text", "", "a"), leaf("Text", "plain", ""), leaf("text", "Plain", "a"), leaf("a b", "c", ""), leaf("text/plain", "", ""), leaf(x(65), "b", ""), leaf("a", x(65), ""), leaf("Multipart", "mixed", ""),
		with(plain("a"), "", "b"), with(plain("a"), "A", "b"), with(plain("a"), "a", "\x00"), with(plain("a"), "a", x(71)), with(plain("a"), "a", "b", "a", "c"), with(plain("a"), append(slices.Clone(nine), "i", "9")...), with(plain("a"), "boundary", "\r\n"),
		with(unbounded, nine...), with(unbounded, "a", x(71)), with(unbounded, "boundary", x(71)), with(unbounded, "boundary", "\t"), with(unbounded, "boundary", "b", "boundary", "b"), with(unbounded, append(slices.Clone(nine), "boundary", "9")...),
		titled(unbounded, "A B", "c"), titled(unbounded, "A", "\r\n"),
	}
	for _, f := range [][]string{{"", ""}, {"", "a"}, {"A B", ""}, {"A:", "b"}, {" ", "b"}, {"A\x00", "b"}, {"caf\xc3\xa9", "b"}, {x(65), "b"}, {"A", " b"}, {"A", "b "}, {"A", "\tb"}, {"A", " "}, {"A", "b\r\n c"}, {"A", "\n"}, {"A", "\r"}, {"A", "b\x00"}} {
		all = append(all, plain("a", f...), image("", "B", "2", f[0], f[1], "C", "3"))
	}
	for _, change := range []func(p *api.Part){func(p *api.Part) { p.Type.Main = "multiparts" }, func(p *api.Part) { p.Type.Main = "text" }, func(p *api.Part) { p.Type.Main = "Multipart" }, func(p *api.Part) { p.Type.Main = "" }, func(p *api.Part) { p.Type.Sub = "" }, func(p *api.Part) { p.Type.Sub = "Mixed" }, func(p *api.Part) { p.Body = "\x00" }, func(p *api.Part) { p.Body = x(20000) }} {
		p := mixed(plain("a"), plain("b"))
		change(&p)
		all = append(all, p)
	}
	return all
}

func TestWrongParts(t *testing.T) {
	for _, p := range wrongParts() {
		refused(t, p, api.ErrForm)
		for count := range 3 {
			refused(t, nested(p, count), api.ErrForm)
			refused(t, nested(mixed(plain("a"), p, image("b")), count), api.ErrForm)
			refused(t, nested(mixed(p, plain("a")), count), api.ErrForm)
			refused(t, nested(mixed(mixed(plain("a")), p), count), api.ErrForm)
		}
	}
}

// ofFields has so many fields of that length more.
func ofFields(p api.Part, count, length int) api.Part {
	return titled(p, slices.Repeat([]string{"A", x(length)}, count)...)
}

func TestCountOfFields(t *testing.T) {
	inner := mixed(plain("a"))
	for _, c := range []struct {
		p    api.Part
		most int
	}{{plain("a"), 62}, {image("a"), 62}, {plain("a", gone()...), 62}, {inner, 63}, {titled(inner, gone()...), 63}, {with(inner, "boundary", "b"), 63}} {
		for _, count := range []int{0, 1, 2, 61, 62, 63, 64, 65, 66, 200} {
			want := api.OK
			if count > c.most {
				want = api.ErrLong
			}
			p := ofFields(c.p, count, 1)
			ends(t, p, want)
			ends(t, titled(p, gone()...), want)
			ends(t, mixed(p), want)
			ends(t, mixed(plain("b"), p, plain("c")), want)
			ends(t, nested(p, 3), want)
		}
		// As many as there may be of each part.
		ends(t, ofFields(mixed(ofFields(c.p, c.most, 0), ofFields(c.p, c.most, 0)), 63, 0), api.OK)
	}
	all := plain("a", slices.Repeat(gone(), 20)...)
	tells(t, all, plainHead+"a")
	tells(t, titled(mixed(all), slices.Repeat(gone(), 20)...), mixedHead("0")+body("0", plainHead+"a"))
}

func TestLengthOfFields(t *testing.T) {
	for s, want := range map[string]api.Errno{
		x(995): api.OK, x(996): api.ErrLong, x(1000): api.ErrLong, x(20000): api.ErrLong,
		"x " + x(996): api.OK, "x " + x(997): api.OK, "x " + x(998): api.ErrLong, x(995) + " x": api.OK, x(995) + " " + x(997) + " x": api.OK, x(995) + " " + x(998) + " x": api.ErrLong,
		"x" + strings.Repeat(" ", 500) + "x": api.OK, "x" + strings.Repeat(" ", 996) + "x": api.ErrLong,
		strings.Repeat("x ", 1200) + "x": api.OK,
	} {
		for _, p := range []api.Part{plain("a", "A", s), image("b", "B", "c", "A", s, "C", "d"), titled(mixed(plain("a")), "A", s), mixed(mixed(plain("a"), plain("b", "A", s))), mixed(plain("a", "A", s), image("b"))} {
			ends(t, p, want)
		}
		tells(t, plain("a", "Content-Type", s, "content-transfer-ENCODING", s), plainHead+"a")
	}
	ends(t, plain("a", x(64), x(932)), api.OK)
	refused(t, plain("a", x(64), x(933)), api.ErrLong)
}

// lengthOf is the length of a tree's text, however long it is.
func lengthOf(p api.Part) int {
	row := slowRow(p)
	for i := len(row) - 1; i >= 0; i-- {
		slowOne(row, i)
	}
	return len(row[0].text)
}

// ofLength fills fields into a part, so that the text of the tree around it has that length, which is some more than it has.
func ofLength(tree func(filled api.Part) api.Part, p api.Part, length int) api.Part {
	for more := length - lengthOf(tree(p)); more > 0; more = length - lengthOf(tree(p)) {
		if more > 700 {
			// So that what is left isn't less than a field has.
			more = 600
		}
		p = titled(p, "A", x(more-5))
	}
	return tree(p)
}

func TestLengthOfTexts(t *testing.T) {
	trees := []func(p api.Part) api.Part{
		func(p api.Part) api.Part { return p }, func(p api.Part) api.Part { return mixed(p) }, func(p api.Part) api.Part { return nested(p, 4) },
		func(p api.Part) api.Part { return mixed(plain("a"), p, image(x(500))) }, func(p api.Part) api.Part { return mixed(mixed(plain(x(4000)), p), plain("c")) },
		func(p api.Part) api.Part { return mixed(append(several(13), p)...) },
	}
	for i, tree := range trees {
		for _, p := range []api.Part{plain("a"), image("a"), plain(x(5000)), image(x(3000)), plain(strings.Repeat("\x00", 3000)), plain("\r\n"), titled(mixed(plain("b")), "B", "c")} {
			if i == 2 && len(p.Parts) > 0 {
				continue
			}
			for length := 16382; length < 16388; length++ {
				whole := ofLength(tree, p, length)
				if lengthOf(whole) != length {
					t.Fatal(lengthOf(whole), length)
				}
				want := api.OK
				if length > 16384 {
					want = api.ErrLong
				}
				ends(t, whole, want)
			}
		}
	}
}

// TestLengthOfBodies: by the body alone, from the last one that goes into a text on.
func TestLengthOfBodies(t *testing.T) {
	counts := map[api.Errno]int{}
	for _, p := range []api.Part{plain(""), image("")} {
		for _, c := range []string{"x", "\x00", "\r\n", " "} {
			for count := 5000; count < 16500; count += 29 {
				p.Body = strings.Repeat(c, count)
				want := api.OK
				if lengthOf(p) > 16384 {
					want = api.ErrLong
				}
				if s, e := Print(p); e != want || (len(s) > 0) != (e == api.OK) {
					t.Errorf("%q %d: %d", c, count, e)
				}
				counts[want]++
			}
		}
	}
	// The text of 16384 bytes that is nothing but a body has a head, too.
	for _, length := range []int{16383, 16384, 16385, 16386, 40000} {
		refused(t, plain(x(length)), api.ErrLong)
		refused(t, image(x(length)), api.ErrLong)
		refused(t, mixed(plain("a"), plain(x(length))), api.ErrLong)
	}
	if counts[api.OK] < 100 || counts[api.ErrLong] < 100 {
		t.Error(counts)
	}
	// Each alone could be printed.
	half := plain(strings.Repeat("\r\n", 4000))
	ends(t, mixed(half, half), api.OK)
	refused(t, mixed(half, half, half), api.ErrLong)
	refused(t, mixed(mixed(half), mixed(half), mixed(half)), api.ErrLong)
	refused(t, mixed(plain("a"), mixed(half, half, half)), api.ErrLong)
}

// faults: parts by their errors, in the order in which they count.
func faults() [][]api.Part {
	bodied := mixed(plain("a"))
	bodied.Body = "x"
	untold := nested(plain("a"), 5)
	untold.Type = api.Type{}
	return [][]api.Part{
		{nested(plain("a"), 5), untold, nested(api.Part{}, 6)},
		{mixed(several(16)...), mixed(make([]api.Part, 16)...)},
		{{}, bodied, leaf("multipart", "mixed", "a"), with(mixed(plain("")), "boundary", x(71)), with(mixed(plain("")), "a", "", "b", "", "c", "", "d", "", "e", "", "f", "", "g", "", "h", ""), plain("a", "A B", ""), titled(mixed(plain("a")), "A", " ")},
		{ofFields(plain("a"), 63, 1), ofFields(mixed(plain("a")), 64, 1), plain("a", "A", x(996)), titled(mixed(plain("a")), "A", x(5000)), plain(x(16300)), image(x(12200)), mixed(plain(x(8000)), plain(x(9000)))},
	}
}

// TestTwoErrors: of two in one tree the first that applies counts, wherever they stand.
func TestTwoErrors(t *testing.T) {
	errors := []api.Errno{api.ErrDeep, api.ErrLong, api.ErrForm, api.ErrLong}
	trees := []func(a, b api.Part) api.Part{
		func(a, b api.Part) api.Part { return mixed(a, b) },
		func(a, b api.Part) api.Part { return mixed(plain("x"), a, image("y"), b) },
		func(a, b api.Part) api.Part { return mixed(mixed(a), b) },
		func(a, b api.Part) api.Part { return mixed(a, mixed(b)) },
		func(a, b api.Part) api.Part { return mixed(mixed(mixed(a)), mixed(plain("x"), b)) },
		func(a, b api.Part) api.Part { return mixed(mixed(mixed(a, plain("x"), b))) },
		// One of them in the other one.
		func(a, b api.Part) api.Part {
			if len(b.Parts) == 0 {
				return mixed(a, b)
			}
			b.Parts = append(slices.Clip(b.Parts), a)
			return b
		},
	}
	for i, first := range faults() {
		for k, second := range faults() {
			for _, a := range first {
				refused(t, a, errors[i])
				for _, b := range second {
					for _, tree := range trees {
						refused(t, tree(a, b), errors[min(i, k)])
					}
				}
			}
		}
	}
	// Two of one part.
	both := ofFields(plain("a"), 70, 1)
	refused(t, titled(both, "A B", ""), api.ErrForm)
	refused(t, titled(plain(x(20000)), "A B", ""), api.ErrForm)
	refused(t, leaf("Text", "plain", x(20000)), api.ErrForm)
	refused(t, plain("a", "A", x(996), "B ", ""), api.ErrForm)
	refused(t, plain("a", "B ", "", "A", x(996)), api.ErrForm)
	refused(t, plain("a", slices.Repeat([]string{"A", " "}, 70)...), api.ErrForm)
	refused(t, plain("a", "A", x(2000)+" "), api.ErrForm)
	// A wrong field that goes is no error.
	refused(t, titled(both, "content-type", " \r\n"), api.ErrLong)
}

func TestEachByte(t *testing.T) {
	oks := 0
	for c := range 256 {
		for _, s := range []string{one(c), "a" + one(c), one(c) + "a", "a" + one(c) + "b"} {
			for _, p := range []api.Part{plain(s), image(s), plain("x", s, "a"), plain("x", "A", s), leaf(s, "a", "b"), leaf("a", s, "b"), with(plain("a"), s, "b"), with(plain("a"), "k", s), with(mixed(plain("a")), s, "b"), with(mixed(plain("a")), "k", s), with(mixed(plain("a")), "boundary", s), titled(mixed(plain("a")), s, "b"), titled(mixed(plain("a")), "b", s), plain("a", "Content-Type"+s, "b"), plain("a", s+"ontent-Type", "b"), leaf("text"+s, "b", "c"), leaf("multipart"+s, "b", "c"), plain("", "A", "--=_"+s+"0"), plain("", "A", "--=_0 --=_1"+s)} {
				for _, tree := range []api.Part{p, mixed(p), mixed(plain("x"), p)} {
					if agrees(t, tree) == api.OK {
						oks++
					}
				}
			}
		}
	}
	if oks < 9000 {
		t.Error("so few are printed:", oks)
	}
}

func TestEveryByteOfBodies(t *testing.T) {
	var all strings.Builder
	for c := range 256 {
		fmt.Fprintf(&all, "%s%s\r\n", one(c), one(c))
	}
	agrees(t, plain(all.String()))
	agrees(t, image(all.String()))
	ends(t, mixed(plain(all.String()), image(all.String())), api.OK)
}
