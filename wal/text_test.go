package wal

import (
	"slices"
	"strings"
	"testing"

	"mailguard/api"
)

// told: changes, their text, and what is parsed from it.
var told = []struct {
	l    []Change
	text string
	back []Change
}{
	{nil, "", nil},
	{[]Change{put("a", "xy")}, "\x00\x00\x01\x00\x02axy", []Change{put("a", "xy")}},
	{[]Change{put("", "")}, "\x00\x00\x00\x00\x00", []Change{put("", "")}},
	{[]Change{put("", "v")}, "\x00\x00\x00\x00\x01v", []Change{put("", "v")}},
	{[]Change{put("k", "")}, "\x00\x00\x01\x00\x00k", []Change{put("k", "")}},
	{[]Change{gone("bb")}, "\x01\x00\x02\x00\x00bb", []Change{gone("bb")}},
	{[]Change{gone("")}, "\x01\x00\x00\x00\x00", []Change{gone("")}},
	{[]Change{{Key: "bb", Value: "lost", Gone: true}}, "\x01\x00\x02\x00\x00bb", []Change{gone("bb")}},
	{[]Change{put("\x00\x01\xff", "\r\n\x80")}, "\x00\x00\x03\x00\x03\x00\x01\xff\r\n\x80", []Change{put("\x00\x01\xff", "\r\n\x80")}},
	{[]Change{put("a", "1"), put("a", "2"), gone("a"), put("", "")}, "\x00\x00\x01\x00\x01a1\x00\x00\x01\x00\x01a2\x01\x00\x01\x00\x00a\x00\x00\x00\x00\x00", []Change{put("a", "1"), put("a", "2"), gone("a"), put("", "")}},
	{[]Change{put(x(255), x(256))}, "\x00\x00\xff\x01\x00" + x(511), []Change{put(x(255), x(256))}},
	{[]Change{put(x(258), x(772))}, "\x00\x01\x02\x03\x04" + x(1030), []Change{put(x(258), x(772))}},
	{[]Change{put(x(65535), "v")}, "\x00\xff\xff\x00\x01" + x(65535) + "v", []Change{put(x(65535), "v")}},
	{[]Change{put("k", x(65535))}, "\x00\x00\x01\xff\xffk" + x(65535), []Change{put("k", x(65535))}},
	{[]Change{put(x(65535), x(65535)), gone(x(65535))}, "\x00\xff\xff\xff\xff" + x(2*65535) + "\x01\xff\xff\x00\x00" + x(65535), []Change{put(x(65535), x(65535)), gone(x(65535))}},
	{[]Change{{Key: "g", Value: x(65535), Gone: true}}, "\x01\x00\x01\x00\x00g", []Change{gone("g")}},
}

func TestPrint(t *testing.T) {
	for _, c := range told {
		was := slices.Clone(c.l)
		if s, e := Print(c.l); s != c.text || e != api.OK {
			t.Errorf("Print(%s): %.99q %d, not %.99q", say(c.l), s, e, c.text)
		}
		if !slices.Equal(c.l, was) {
			t.Error("Print changed", say(was))
		}
	}
}

func TestParse(t *testing.T) {
	for _, c := range told {
		if l, e := Parse(c.text); !slices.Equal(l, c.back) || e != api.OK {
			t.Errorf("Parse(%.99q): %s %d, not %s", c.text, say(l), e, say(c.back))
		}
	}
}

func TestPrintOfTooLong(t *testing.T) {
	for i, l := range [][]Change{
		{put(x(65536), "")},
		{put("", x(65536))},
		{gone(x(65536))},
		{{Key: "a", Value: x(65536), Gone: true}},
		{put("a", "1"), put(x(65536), "")},
		{put("a", x(65536)), put("b", "2")},
		{put(x(131072), x(131072))},
		{put("a", x(65536+2))},
	} {
		if s, e := Print(l); s != "" || e != api.ErrLong {
			t.Errorf("%d: %.99q %d", i, s, e)
		}
	}
}

func TestParseOfWhatIsNoText(t *testing.T) {
	right := "\x00\x00\x01\x00\x02axy"
	wrong := []string{
		"\x02\x00\x00\x00\x00", "\xff\x00\x00\x00\x00", "0\x00\x00\x00\x00", "\x02\x00\x01\x00\x00a",
		"\x01\x00\x01\x00\x01av", "\x01\x00\x00\x00\x01v", "\x01\x00\x00\xff\xff" + x(65535),
		right + "x", right + "\x00", right + right[:6], right + "\x02\x00\x00\x00\x00", "x" + right,
		"\x00\xff\xff\x00\x00" + x(65534), "\x00\x00\x00\xff\xff" + x(65534), "\x00\xff\xff\xff\xff" + x(2*65535-1),
		"\x00\x01\x00\x00\x00" + x(255), "\x00\x00\x00\x01\x00" + x(255), "hello, no text of changes",
		strings.Repeat("\x00", 4), strings.Repeat("\x00", 6), strings.Repeat("\xff", 999),
	}
	for i := 1; i < len(right); i++ {
		wrong = append(wrong, right[:i], right+right[:i])
	}
	for _, s := range wrong {
		if l, e := Parse(s); len(l) != 0 || e != api.ErrForm {
			t.Errorf("Parse(%.99q): %s %d", s, say(l), e)
		}
	}
}

// TestAllShortTexts holds Parse against the texts that Print tells of all lists: which other text there is of a few bytes is none.
func TestAllShortTexts(t *testing.T) {
	const most = 11
	letters := []string{"\x00", "\x01", "\x02"}
	texts := map[int][]string{0: {""}}
	for size := 1; size <= most; size++ {
		for _, s := range texts[size-1] {
			for _, c := range letters {
				texts[size] = append(texts[size], s+c)
			}
		}
	}
	right := map[string][]Change{}
	var lists func(l []Change, left int)
	lists = func(l []Change, left int) {
		right[slowText(l)] = l
		for keySize := 0; 5+keySize <= left; keySize++ {
			for _, key := range texts[keySize] {
				lists(append(slices.Clip(l), gone(key)), left-5-keySize)
				for valueSize := 0; 5+keySize+valueSize <= left; valueSize++ {
					for _, value := range texts[valueSize] {
						lists(append(slices.Clip(l), put(key, value)), left-5-keySize-valueSize)
					}
				}
			}
		}
	}
	lists(nil, most)
	for size := range most + 1 {
		for _, s := range texts[size] {
			l, ok := right[s]
			want := api.ErrForm
			if ok {
				want = api.OK
			}
			if got, e := Parse(s); !slices.Equal(got, l) || e != want {
				t.Fatalf("Parse(%q): %s %d, not %s %d", s, say(got), e, say(l), want)
			}
			if again, e := Print(l); ok && (again != s || e != api.OK) {
				t.Fatalf("Print(%s): %q %d, not %q", say(l), again, e, s)
			}
		}
	}
}

func TestParseAnswersNewLists(t *testing.T) {
	s, _ := Print([]Change{put("a", "1"), put("b", "2")})
	one, _ := Parse(s)
	other, _ := Parse(s)
	one[0] = gone("spoilt")
	if other[0] != put("a", "1") {
		t.Error(other)
	}
}
