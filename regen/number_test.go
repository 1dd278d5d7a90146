package regen

import (
	"fmt"
	"strconv"
	"strings"
	"testing"

	"mailguard/api"
)

// numbered checks the number of a multipart of those parts, also of one in which another part stands ahead, or behind.
func numbered(t *testing.T, want int, parts ...api.Part) {
	t.Helper()
	for _, p := range []api.Part{mixed(parts...), mixed(append([]api.Part{plain("a")}, parts...)...), mixed(append(parts[:len(parts):len(parts)], image("a"))...)} {
		if s, e := Print(p); !strings.HasPrefix(s, mixedHead(strconv.Itoa(want))+"--=_"+strconv.Itoa(want)+"\r\n") || e != api.OK {
			t.Errorf("%s: %s %d, not %d", brief(whole(p)), brief(s), e, want)
		}
		agrees(t, p)
	}
}

// numbers: texts in a part's text, and the least number whose division doesn't begin so.
func numbers() map[string]int {
	return map[string]int{
		"": 0, "x": 0, "0": 0, "--": 0, "--=": 0, "--=_": 0, "=_0": 0, "_0": 0, "-=_0": 0, "--_0": 0, "--=0": 0, "--=-0": 0, "- -=_0": 0, "-- =_0": 0, "--= _0": 0, "--=_ 0": 0, "--=_x0": 0, "--=_-0": 0, "--=__0": 0, "--=_--=_": 0, "0--=_": 0, "--=3D_0": 0, "-\xad=_0": 0, "--=_\xd9\xa0": 0,
		"--=_0": 1, "---=_0": 1, "x--=_0": 1, "--=_0x": 1, "--=_0--": 1, "--=_0 ": 1, "--=_0\t1": 1, "--=_00": 1, "--=_01": 1, "--=_000000": 1, "--=_0123": 1, "--=_0 --=_0": 1, "--=_--=_0": 1, "--=_-----=_0": 1, "--=_0=_1": 1, "--=_0 -=_1": 1, "--=_0 --=_": 1,
		"--=_1": 0, "--=_2": 0, "--=_9": 0, "--=_10": 0, "--=_1 --=_2": 0, "--=_99999999999999999999": 0, "--=_x --=_1": 0,
		"--=_0 --=_1": 2, "--=_1 --=_0": 2, "--=_0--=_1": 2, "--=_1--=_0": 2, "--=_0 --=_10": 2, "--=_0 --=_12": 2, "--=_0 --=_1999999999": 2, "--=_0 --=_1x": 2, "--=_0 --=_100000000000000000000000": 2, "--=_0 --=_01 --=_1": 2, "--=_0 --=_1 --=_3": 2, "--=_0 --=_1 --=_02": 2,
		"--=_0 --=_2": 1, "--=_0 --=_2 --=_3": 1, "--=_0 --=_20": 1, "--=_0 --=_02": 1, "--=_0 --=_9": 1,
		"--=_0 --=_1 --=_2 --=_3 --=_4 --=_5 --=_6 --=_7 --=_8 --=_9":     10,
		"--=_0 --=_10 --=_2 --=_3 --=_4 --=_5 --=_6 --=_7 --=_8 --=_9":    11,
		"--=_0 --=_11 --=_2 --=_3 --=_4 --=_5 --=_6 --=_7 --=_8 --=_9":    10,
		"--=_9 --=_8 --=_7 --=_6 --=_5 --=_4 --=_30 --=_2 --=_100 --=_0":  11,
		"--=_0 --=_1 --=_2 --=_3 --=_4 --=_5 --=_6 --=_7 --=_8 --=_10":    9,
		"--=_0 --=_1 --=_2 --=_3 --=_4 --=_5 --=_6 --=_7 --=_80 --=_9001": 10,
	}
}

// isOf: are all bytes of a text from that one on up to ~?
func isOf(s string, from byte) bool {
	for i := range len(s) {
		if s[i] < from || s[i] > '~' {
			return false
		}
	}
	return true
}

func TestNumbersOfFields(t *testing.T) {
	for s, want := range numbers() {
		if strings.TrimSpace(s) != s {
			continue
		}
		numbered(t, want, plain("b", "A", s))
		numbered(t, want, image("b", "A", "1", "B", s, "C", "3"))
		numbered(t, want, plain("b"), plain("c", "A", s))
		if s != "" && isOf(s, '!') {
			numbered(t, want, plain("b", s, ""))
			numbered(t, want, image("b", s+"-", "--=x"))
		}
		// Whatever stands in the fields that go: nothing.
		numbered(t, 0, plain("b", "Content-Type", s, "content-transfer-encoding", s))
		// What stands in the multipart's own header is not in its parts' texts.
		p := titled(mixed(plain("b")), "A", s)
		if isOf(s, ' ') && len(s) <= 70 {
			p = with(p, "boundary", s)
		}
		if text, _ := Print(p); !strings.HasSuffix(text, "\r\n\r\n"+body("0", plainHead+"b")) {
			t.Error(brief(text))
		}
		agrees(t, p)
	}
}

// TestNumbersOfBodies: as it is told, a body has no such division, as it has no such =.
func TestNumbersOfBodies(t *testing.T) {
	for s := range numbers() {
		numbered(t, 0, plain(s))
		numbered(t, 0, image(s))
		numbered(t, 0, plain("\r\n"+s+"\r\n"+s))
		numbered(t, 0, plain(x(74)+s))
		numbered(t, 0, plain(x(73)+"--"+s))
	}
	numbered(t, 0, plain("--"), plain("=_0"))
	numbered(t, 0, plain("--"), plain("", "--=_", "0"))
	numbered(t, 0, plain("", "A", "--=_"), plain("0", "=_0", "0"))
	numbered(t, 0, plain("", "--", "=_0"))
	numbered(t, 1, plain("--=_1", "A", "--=_0"))
}

func TestNumbersOfTypes(t *testing.T) {
	numbered(t, 1, with(plain("a"), "k", "--=_0"))
	numbered(t, 1, with(plain("a"), "--", "_0"))
	numbered(t, 1, with(image("a"), "k", "v", "x--", "_0x"))
	numbered(t, 2, with(plain("a"), "--", "_0", "---", "_1"))
	numbered(t, 2, with(plain("a"), "--", "_0"), with(plain("a"), "--", "_1"))
	numbered(t, 0, with(plain("a"), "--", "_1"))
	numbered(t, 0, with(plain("a"), "--", "_"))
	numbered(t, 0, with(plain("a"), "--", "=_0"))
	numbered(t, 0, with(plain("a"), "--", "_0A"))
	numbered(t, 0, with(plain("a"), "k", "--\"=_0"))
	numbered(t, 0, with(plain("a"), "boundary", "=_0"))
	numbered(t, 1, with(plain("a"), "boundary", "--=_0"))
	numbered(t, 0, leaf("text", "x--", "=_0"))
}

func TestNumbersOfSeveralParts(t *testing.T) {
	numbered(t, 2, plain("", "A", "--=_0"), plain("", "A", "--=_1"))
	numbered(t, 2, plain("", "A", "--=_1"), image("", "A", "--=_0"))
	numbered(t, 1, plain("", "A", "--=_0"), image("", "A", "--=_0"))
	numbered(t, 1, plain("", "A", "--=_0"), image("", "A", "--=_2"), plain("", "A", "--=_3"))
	numbered(t, 4, plain("", "A", "--=_3"), image("", "A", "--=_12"), plain("", "A", "--=_0 --=_2"))
	numbered(t, 3, plain(""), plain("", "--=_0", "--=_1"), plain(""), plain("", "--=_2", ""))
}

// TestNumbersOfInnerParts: all that is in an inner part's text counts: its own division, and what stands in its header.
func TestNumbersOfInnerParts(t *testing.T) {
	for _, c := range []struct {
		inner []api.Part
		want  int
	}{
		{[]api.Part{mixed(plain("a"))}, 1},
		{[]api.Part{mixed(plain("a")), mixed(plain("b"))}, 1},
		{[]api.Part{mixed(mixed(plain("a")))}, 2},
		{[]api.Part{mixed(mixed(mixed(plain("a"))))}, 3},
		{[]api.Part{mixed(mixed(plain("a"))), mixed(plain("b"))}, 2},
		{[]api.Part{mixed(plain("a"), mixed(plain("b"), mixed(plain("c"))), plain("d"))}, 3},
		{[]api.Part{mixed(plain("a", "A", "--=_0"))}, 2},
		{[]api.Part{mixed(plain("a", "A", "--=_1"))}, 2},
		{[]api.Part{mixed(plain("a", "A", "--=_2"))}, 1},
		{[]api.Part{mixed(plain("a", "A", "--=_10"))}, 2},
		{[]api.Part{titled(mixed(plain("a")), "A", "--=_0")}, 1},
		{[]api.Part{titled(mixed(plain("a")), "A", "--=_1")}, 2},
		{[]api.Part{titled(mixed(plain("a")), "A", "--=_2")}, 1},
		{[]api.Part{with(mixed(plain("a")), "boundary", "--=_1")}, 1},
		{[]api.Part{with(mixed(plain("a")), "k", "--=_1")}, 2},
		{[]api.Part{mixed(plain("a")), plain("b", "A", "--=_1")}, 2},
		{[]api.Part{mixed(plain("a", "A", "--=_0")), plain("b", "A", "--=_2")}, 3},
		{[]api.Part{mixed(plain("a", "A", "--=_0 --=_2"))}, 3},
		{[]api.Part{mixed(plain("a", "A", "--=_0")), mixed(plain("b"))}, 2},
	} {
		numbered(t, c.want, c.inner...)
	}
	tells(t, mixed(mixed(plain("a", "A", "--=_0"))), mixedHead("2")+body("2", mixedHead("1")+body("1", "A: --=_0\r\n"+plainHead+"a")))
}

// marks are the divisions of all numbers below one, in fields of some each.
func marks(below int, without ...int) api.Part {
	p := plain("a")
	for from := 0; from < below; from += 50 {
		var s []string
		for number := from; number < min(below, from+50); number++ {
			if len(without) == 0 || without[0] != number {
				s = append(s, fmt.Sprintf("--=_%d", number))
			}
		}
		p = titled(p, "A", strings.Join(s, " "))
	}
	return p
}

func TestGreatNumbers(t *testing.T) {
	for below := range 130 {
		numbered(t, below, marks(below))
		numbered(t, below, marks(below), marks(below/2))
	}
	for _, below := range []int{999, 1000, 1001, 1500} {
		numbered(t, below, marks(below))
	}
	for without := range 130 {
		want := without
		// Of 1 to 12 there are 10 to 129, which begin so.
		if without >= 1 && without <= 12 {
			want = 130
		}
		numbered(t, want, marks(130, without))
	}
	// Those of four digits begin with all of one to three but 0.
	p := plain("a", "Z", "--=_0")
	for from := 100; from < 1000; from += 50 {
		var s strings.Builder
		for number := from; number < from+50; number++ {
			fmt.Fprintf(&s, "--=_%d7", number)
		}
		p = titled(p, "A", s.String())
	}
	numbered(t, 1000, p)
}

// TestNumbersOfAllShortTexts: pieces of divisions, wherever.
func TestNumbersOfAllShortTexts(t *testing.T) {
	counts := map[string]int{}
	for _, s := range rows(6, "--=_", "0", "1", "-") {
		p := mixed(plain("", "A", s), plain("", "B", "x"))
		agrees(t, p)
		c, _ := Canon(p)
		counts[c.Type.Params[0].Value]++
	}
	for _, s := range rows(7, "--", "=", "_0") {
		agrees(t, mixed(plain("", "A", s)))
	}
	if len(counts) != 3 || counts["=_1"] < 300 || counts["=_2"] < 30 {
		t.Error(counts)
	}
}
