package frame

import (
	"fmt"
	"slices"
	"strings"
	"sync"
	"testing"
)

func x(count int) string { return strings.Repeat("x", count) }

// slowly tells in another way than the program which lines are in a stream, and how many bytes wait behind them.
func slowly(stream string) ([]Line, int) {
	all := strings.Split(stream, "\r\n")
	last := len(all) - 1
	var lines []Line
	for _, text := range all[:last] {
		if len(text) < 999 {
			lines = append(lines, Line{Text: text})
		} else {
			lines = append(lines, Line{Long: true})
		}
	}
	return lines, min(len(all[last]), 999)
}

// brief tells texts so that their bytes are seen, of long ones the first and the last.
func brief(texts ...string) string {
	var all []string
	for _, s := range texts {
		if len(s) > 60 {
			s = fmt.Sprintf("%q..%d..%q", s[:20], len(s)-40, s[len(s)-20:])
		} else {
			s = fmt.Sprintf("%q", s)
		}
		all = append(all, s)
	}
	return strings.Join(all, " ")
}

func shown(lines []Line) string {
	var all []string
	for _, line := range lines {
		if line.Long {
			all = append(all, "long:")
		}
		all = append(all, brief(line.Text))
	}
	return "[" + strings.Join(all, " ") + "]"
}

// stands checks how much waits in a framer, and was fed to it.
func stands(t *testing.T, f *Framer, waiting, fed int) {
	t.Helper()
	if f.Waiting() != waiting || f.Fed() != fed || f.Waiting() != waiting || f.Fed() != fed {
		t.Errorf("%d wait, not %d; %d were fed, not %d", f.Waiting(), waiting, f.Fed(), fed)
	}
}

// hears feeds pieces to a new framer, and checks behind each what was heard so far.
func hears(t *testing.T, pieces ...string) {
	t.Helper()
	f := New()
	stands(t, f, 0, 0)
	var lines []Line
	stream := ""
	for i, piece := range pieces {
		lines = append(lines, f.Feed(piece)...)
		stream += piece
		want, waiting := slowly(stream)
		if !slices.Equal(lines, want) {
			t.Errorf("piece %d of %s: %s, not %s", i, brief(pieces...), shown(lines), shown(want))
			return
		}
		stands(t, f, waiting, len(stream))
	}
}

// inPieces: of that many bytes each, but for the last.
func inPieces(s string, size int) []string {
	var pieces []string
	for some := range slices.Chunk([]byte(s), size) {
		pieces = append(pieces, string(some))
	}
	return pieces
}

// textsOf answers all texts of at most that many of those bytes.
func textsOf(letters string, most int) []string {
	all := []string{""}
	for from, length := 0, 0; length < most; length++ {
		till := len(all)
		for _, s := range all[from:till] {
			for i := range len(letters) {
				all = append(all, s+letters[i:i+1])
			}
		}
		from = till
	}
	return all
}

func TestOrdinaryStream(t *testing.T) {
	f := New()
	for i, c := range []struct {
		s       string
		want    []Line
		waiting int
		fed     int
	}{
		{"a", nil, 1, 1},
		{"\r\nb", []Line{{Text: "a"}}, 1, 4},
		{"", nil, 1, 4},
		{"c\r\n", []Line{{Text: "bc"}}, 0, 7},
		{"HELO a\r\nMAIL FROM:<>\r\n\r\nDA", []Line{{Text: "HELO a"}, {Text: "MAIL FROM:<>"}, {}}, 2, 33},
		{"TA\r", nil, 5, 36},
		{"\n", []Line{{Text: "DATA"}}, 0, 37},
		{"", nil, 0, 37},
		{".\r\n..\r\n", []Line{{Text: "."}, {Text: ".."}}, 0, 44},
		{"\x00\xff\r\n\xc3", []Line{{Text: "\x00\xff"}}, 1, 49},
		{"\xa9\r\n", []Line{{Text: "\xc3\xa9"}}, 0, 52},
	} {
		if lines := f.Feed(c.s); !slices.Equal(lines, c.want) {
			t.Errorf("%d: %s, not %s", i, shown(lines), shown(c.want))
		}
		stands(t, f, c.waiting, c.fed)
	}
}

func TestNoBytes(t *testing.T) {
	hears(t)
	hears(t, "")
	hears(t, "", "", "a", "", "\r", "", "\n", "", "b", "")
	hears(t, x(998), "", "\r", "", "\n", "")
	hears(t, x(999), "", "\r", "", "\n", "")
}

func TestLone13And10(t *testing.T) {
	f := New()
	for i, c := range []struct {
		s       string
		want    []Line
		waiting int
	}{
		{"\r", nil, 1},
		{"\r", nil, 2},
		{"\n", []Line{{Text: "\r"}}, 0},
		{"\n", nil, 1},
		{"\n", nil, 2},
		{"\r", nil, 3},
		{"\n", []Line{{Text: "\n\n"}}, 0},
		{"a\rb\nc", nil, 5},
		{"\n\r", nil, 7},
		{"d\r\n", []Line{{Text: "a\rb\nc\n\rd"}}, 0},
		{"\r\r\r\n\n\r\n\r", []Line{{Text: "\r\r"}, {Text: "\n"}}, 1},
		{"\r\n\r\n", []Line{{Text: "\r"}, {}}, 0},
	} {
		if lines := f.Feed(c.s); !slices.Equal(lines, c.want) {
			t.Errorf("%d: %s, not %s", i, shown(lines), shown(c.want))
		}
		if f.Waiting() != c.waiting {
			t.Errorf("%d: %d wait", i, f.Waiting())
		}
	}
}

func TestEachByte(t *testing.T) {
	for c := range 256 {
		one := string([]byte{byte(c)})
		hears(t, one, "\r\n")
		hears(t, one+"\r\n", one)
		hears(t, "\r"+one, "\r\n")
		hears(t, "\r", one, "\n", one+"\r\n")
		hears(t, x(997)+one, "\r\n")
		hears(t, x(998)+one, "\r\n"+one)
	}
}

func TestShortStreamsInAllPieces(t *testing.T) {
	for _, stream := range textsOf("\r\na", 7) {
		for cuts := range 1 << max(len(stream)-1, 0) {
			var pieces []string
			from := 0
			for at := 1; at < len(stream); at++ {
				if cuts>>(at-1)&1 == 1 {
					pieces = append(pieces, stream[from:at])
					from = at
				}
			}
			hears(t, append(pieces, stream[from:])...)
		}
	}
}

func TestLongestLine(t *testing.T) {
	for length, long := range map[int]bool{0: false, 1: false, 997: false, 998: false, 999: true, 1000: true, 1001: true, 5000: true} {
		want := Line{Text: x(length)}
		if long {
			want = Line{Long: true}
		}
		atOnce, byByte := New(), New()
		if lines := atOnce.Feed(x(length) + "\r\n"); !slices.Equal(lines, []Line{want}) {
			t.Errorf("%d bytes at once: %s", length, shown(lines))
		}
		for i := range length {
			if lines := byByte.Feed("x"); len(lines) != 0 {
				t.Errorf("%d: %s", length, shown(lines))
			}
			stands(t, byByte, min(i+1, 999), i+1)
		}
		if lines := byByte.Feed("\r"); len(lines) != 0 {
			t.Errorf("%d: %s", length, shown(lines))
		}
		stands(t, byByte, min(length+1, 999), length+1)
		if lines := byByte.Feed("\n"); !slices.Equal(lines, []Line{want}) {
			t.Errorf("%d byte by byte: %s", length, shown(lines))
		}
		stands(t, atOnce, 0, length+2)
		stands(t, byByte, 0, length+2)
	}
}

// What stands behind a long beginning makes a line long, or doesn't, and the next line begins behind its end.
func TestAboutTheLongestLine(t *testing.T) {
	for length := 995; length <= 1003; length++ {
		for _, tail := range textsOf("\r\ny", 5) {
			stream := x(length) + tail
			hears(t, stream, "\r\nb\r\nc")
			hears(t, x(length), tail, "b\r\nc")
			hears(t, append([]string{x(length)}, inPieces(tail+"\r\nb\r\nc", 1)...)...)
			hears(t, append([]string{"a\r\n" + x(500), x(length - 500)}, inPieces(tail+"b\r\nc\r\n", 2)...)...)
		}
	}
}

func TestA13BehindTheLongestLine(t *testing.T) {
	longest, long := Line{Text: x(998)}, Line{Long: true}
	for tail, want := range map[string][]Line{
		"\r":            nil,
		"\r\n":          {longest},
		"\r\r":          nil,
		"\r\r\n":        {long},
		"\ry\r\n":       {long},
		"\r\n\r\n":      {longest, {}},
		"\r\ny\r\n":     {longest, {Text: "y"}},
		"\r\r\n\r\n":    {long, {}},
		"\n\r\n":        {long},
		"\n":            nil,
		"y\n":           nil,
		"y\r":           nil,
		"y\r\n":         {long},
		"yy\r\r\nz\r\n": {long, {Text: "z"}},
	} {
		for _, size := range []int{1, 2, 998, 999, 1000, 2000} {
			f := New()
			var lines []Line
			for _, piece := range inPieces(x(998)+tail, size) {
				lines = append(lines, f.Feed(piece)...)
			}
			if !slices.Equal(lines, want) {
				t.Errorf("%q in pieces of %d: %s", tail, size, shown(lines))
			}
			hears(t, inPieces(x(998)+tail, size)...)
		}
	}
}

func TestALongLineIsToldWithoutItsBytes(t *testing.T) {
	f := New()
	for _, length := range []int{999, 1000, 100000} {
		if lines := f.Feed(x(length)); len(lines) != 0 || f.Waiting() != 999 {
			t.Errorf("%d: %s, %d wait", length, shown(lines), f.Waiting())
		}
		if lines := f.Feed("\r"); len(lines) != 0 || f.Waiting() != 999 {
			t.Errorf("%d: %s, %d wait", length, shown(lines), f.Waiting())
		}
		if lines := f.Feed("\na\r\n" + x(998) + "\r\nb"); !slices.Equal(lines, []Line{{Long: true}, {Text: "a"}, {Text: x(998)}}) || f.Waiting() != 1 {
			t.Errorf("%d: %s, %d wait", length, shown(lines), f.Waiting())
		}
		if lines := f.Feed("\r\n"); !slices.Equal(lines, []Line{{Text: "b"}}) || f.Waiting() != 0 {
			t.Errorf("%d: %s, %d wait", length, shown(lines), f.Waiting())
		}
	}
}

// longStream: lines of many lengths, those about the longest ones among them, with lone 13s and 10s.
func longStream() string {
	var stream strings.Builder
	for _, length := range []int{0, 1, 80, 997, 998, 999, 1000, 3, 2500, 0, 998, 0, 1001, 12} {
		stream.WriteString(x(length) + "\r\n" + x(length/2) + "\r" + x(length/2) + "\r\r\n" + x(length) + "\n\r\n")
	}
	return stream.String() + x(700)
}

func TestPiecesPlayNoPart(t *testing.T) {
	stream := longStream()
	want, waiting := slowly(stream)
	for _, size := range []int{1, 2, 3, 5, 7, 64, 333, 997, 998, 999, 1000, 1001, 4096, len(stream)} {
		f := New()
		var lines []Line
		for _, piece := range inPieces(stream, size) {
			lines = append(lines, f.Feed(piece)...)
		}
		if !slices.Equal(lines, want) {
			t.Errorf("pieces of %d: %d lines, not %d", size, len(lines), len(want))
		}
		stands(t, f, waiting, len(stream))
	}
	for at := 0; at <= len(stream); at += 1 + at%13 {
		f := New()
		lines := f.Feed(stream[:at])
		if lines = append(lines, f.Feed(stream[at:])...); !slices.Equal(lines, want) {
			t.Errorf("cut at %d: %d lines, not %d", at, len(lines), len(want))
		}
		stands(t, f, waiting, len(stream))
	}
}

func TestReset(t *testing.T) {
	heads := []string{
		"", "a", "abc\r\nd", "abc\r\n", "\r", "a\r", "a\r\r", "a\r\n\r", "\n", "a\n", ".", x(997), x(998), x(998) + "\r", x(999), x(999) + "\r", x(1000), x(5000), x(5000) + "\r", "a\r\n" + x(2000) + "\r\r",
	}
	tails := []string{
		"", "\n", "\r", "\r\n", "\n\r\n", "\r\r\n", "b\r\n", "\na\r\nb", x(997) + "\r\n", x(998) + "\r\nc", x(999) + "\r\nc", x(1500), x(998) + "\r", "\n" + x(997) + "\r\n", "\n" + x(998) + "\r\n",
	}
	for _, head := range heads {
		for _, tail := range tails {
			for _, size := range []int{1, 3, 10000} {
				f := New()
				for _, piece := range inPieces(head, size) {
					f.Feed(piece)
				}
				f.Reset()
				stands(t, f, 0, len(head))
				var lines []Line
				for _, piece := range inPieces(tail, size) {
					lines = append(lines, f.Feed(piece)...)
				}
				want, waiting := slowly(tail)
				if !slices.Equal(lines, want) {
					t.Errorf("%d bytes, Reset, %s: %s, not %s", len(head), brief(tail), shown(lines), shown(want))
				}
				stands(t, f, waiting, len(head)+len(tail))
			}
		}
	}
}

func TestResetOfNothingAndTwice(t *testing.T) {
	f := New()
	f.Reset()
	stands(t, f, 0, 0)
	f.Feed("ab\r")
	f.Reset()
	f.Reset()
	stands(t, f, 0, 3)
	if lines := f.Feed("\nc\r\n"); !slices.Equal(lines, []Line{{Text: "\nc"}}) {
		t.Errorf("%s", shown(lines))
	}
	stands(t, f, 0, 7)
}

func TestFramersKnowNothingOfEachOther(t *testing.T) {
	f, g := New(), New()
	f.Feed("a\r")
	g.Feed(x(2000))
	if lines := f.Feed("\n"); !slices.Equal(lines, []Line{{Text: "a"}}) {
		t.Errorf("%s", shown(lines))
	}
	f.Reset()
	stands(t, f, 0, 3)
	stands(t, g, 999, 2000)
}

func TestLinesThatWereToldStay(t *testing.T) {
	f := New()
	first := f.Feed("abc\r\ndef\r\ngh")
	second := f.Feed("i\r\njkl\r\n")
	first[0], first[1] = Line{Text: "other"}, Line{Long: true}
	third := f.Feed("uvw\r\nxyz\r\n")
	if !slices.Equal(second, []Line{{Text: "ghi"}, {Text: "jkl"}}) || !slices.Equal(third, []Line{{Text: "uvw"}, {Text: "xyz"}}) {
		t.Errorf("%s %s", shown(second), shown(third))
	}
	if !slices.Equal(first, []Line{{Text: "other"}, {Long: true}}) {
		t.Errorf("%s", shown(first))
	}
}

func TestNoMoreIsKeptThanALine(t *testing.T) {
	f := New()
	for range 5000 {
		f.Feed("y")
		if len(f.begun) > 998 || cap(f.begun) > 4000 {
			t.Fatal(len(f.begun), cap(f.begun))
		}
	}
	if f.begun != nil {
		t.Error("a long line's bytes are kept")
	}
	f.Feed(x(1<<20) + "\r\n" + x(998) + "\r")
	if len(f.begun) != 998 || cap(f.begun) > 4000 {
		t.Error(len(f.begun), cap(f.begun))
	}
}

func TestFedIsAskedWhileBytesCome(t *testing.T) {
	f := New()
	var all sync.WaitGroup
	all.Go(func() {
		for range 1000 {
			f.Feed("abc\r\n")
		}
	})
	last := 0
	for range 1000 {
		now := f.Fed()
		if now < last || now%5 != 0 {
			t.Error(last, now)
		}
		last = now
	}
	all.Wait()
	stands(t, f, 0, 5000)
}
