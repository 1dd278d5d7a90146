package spool

import (
	"bytes"
	"encoding/binary"
	"math"
	"math/rand"
	"strings"
	"testing"

	"mailguard/api"
	"mailguard/retry"
)

// someIds are numbers of items, noIds such as no item has.
var (
	someIds = []int{1, 2, 9, 10, 99999998, 99999999, 100000000, 1 << 32, math.MaxInt}
	noIds   = []int{0, -1, -2, -9, -10, -99999999, -100000000, -1 << 32, math.MinInt + 1, math.MinInt}
)

// someTurns are right, at the edges and within them.
var someTurns = []retry.Turn{
	turn(0, 0, 0), turn(0, 4, 0), turn(0, 0, last), turn(0, 4, last), turn(last, 0, last), turn(last, 4, last),
	turn(1, 1, 2), turn(258, 1, 300), turn(255, 2, 256), turn(1<<16, 3, 1<<24), turn(1<<32-1, 4, 1<<32), turn(1<<39, 0, last-1),
}

// wrongTurns have each one thing, or several, that isn't right.
func wrongTurns() []retry.Turn {
	all := []retry.Turn{turn(1, 0, 0), turn(last, 0, last-1), turn(300, 1, 258), turn(0, 5, 0), turn(0, -1, 0), turn(0, 256, 0), turn(0, 1<<32, 0), turn(0, 1<<56, 0)}
	for _, bad := range []int{math.MinInt, math.MinInt + 1, -1 << 40, -1 << 32, -1, last + 1, 1 << 41, 1 << 48, 1 << 62, math.MaxInt} {
		all = append(all, turn(bad, 0, bad), turn(bad, 0, 0), turn(0, 0, bad), turn(bad, 0, last), turn(0, bad, 0), turn(bad, bad, bad))
	}
	return all
}

// prints checks an item that is right, whatever its Id is.
func prints(t *testing.T, i Item) {
	t.Helper()
	want := slowText(i)
	for _, id := range append(append([]int{i.Id}, someIds...), noIds...) {
		i.Id = id
		if s, e := Print(i); s != want || e != api.OK || !Right(i) {
			t.Errorf("Print(%s): %d bytes, %d", brief(i), len(s), e)
		}
	}
	for _, id := range someIds {
		i.Id = id
		if got, e := Parse(id, want); got != i || e != api.OK {
			t.Errorf("Parse of %s: %s %d", brief(i), brief(got), e)
		}
	}
	for _, id := range noIds {
		noItem(t, id, want)
	}
}

// printsNot checks an item that isn't right, and that its text, as far as it has one, is none.
func printsNot(t *testing.T, i Item) {
	t.Helper()
	for _, id := range append(append([]int{i.Id}, someIds...), noIds...) {
		i.Id = id
		if s, e := Print(i); s != "" || e != api.ErrRange || Right(i) {
			t.Errorf("Print(%s): %d bytes, %d", brief(i), len(s), e)
		}
	}
	noItem(t, 1, slowText(i))
}

func noItem(t *testing.T, id int, s string) {
	t.Helper()
	if got, e := Parse(id, s); got != (Item{}) || e != api.ErrForm {
		t.Errorf("Parse(%d, %d bytes): %s %d", id, len(s), brief(got), e)
	}
}

// agrees checks a text against the slow way.
func agrees(t *testing.T, id int, s string) api.Errno {
	t.Helper()
	want, e := slowParse(id, s)
	if got, f := Parse(id, s); got != want || f != e {
		t.Errorf("Parse(%d, %q): %s %d, not %s %d", id, s, brief(got), f, brief(want), e)
	}
	return e
}

// TestEachByte spells a text out.
func TestEachByte(t *testing.T) {
	i := Item{Id: 7, From: "low@a", To: "\x00\xff", Text: "hi\r\n", Turn: turn(0x0000_0081_0203_0405, 4, 0x0000_00f1_8283_8485)}
	want := "\x00\x05low@a" + "\x00\x02\x00\xff" + "\x00\x04hi\r\n" +
		"\x00\x00\x00\x81\x02\x03\x04\x05" + "\x00\x00\x00\x00\x00\x00\x00\x04" + "\x00\x00\x00\xf1\x82\x83\x84\x85"
	if s, e := Print(i); s != want || e != api.OK {
		t.Errorf("%q %d", s, e)
	}
	if got, e := Parse(7, want); got != i || e != api.OK {
		t.Error(brief(got), e)
	}
	empty := strings.Repeat("\x00", 30)
	if s, e := Print(Item{}); s != empty || e != api.OK {
		t.Errorf("%q %d", s, e)
	}
	if got, e := Parse(1, empty); got != (Item{Id: 1}) || e != api.OK {
		t.Error(brief(got), e)
	}
}

func TestLengths(t *testing.T) {
	for _, from := range []int{0, 1, 127, 254, 255, 256, 257, 511, 65535, 65536, 65792, 1 << 20} {
		for _, to := range []int{0, 1, 128, 254, 255, 256, 257, 65535, 65536, 1 << 20} {
			for _, text := range []int{0, 1, 255, 256, 16383, 16384, 16385, 16386, 65535, 65536, 65537, 1 << 20} {
				i := Item{Id: 3, From: x(from), To: strings.Repeat("y", to), Text: strings.Repeat("z", text), Turn: turn(1, 2, 3)}
				if from <= 255 && to <= 255 && text <= 16384 {
					prints(t, i)
				} else {
					printsNot(t, i)
				}
			}
		}
	}
}

func TestTurns(t *testing.T) {
	for _, right := range someTurns {
		for _, i := range []Item{{Turn: right}, item("text", right), {From: x(255), To: x(255), Text: x(16384), Turn: right}} {
			prints(t, i)
		}
	}
	for _, wrong := range wrongTurns() {
		for _, i := range []Item{{Turn: wrong}, item("text", wrong), {From: x(256), Text: x(16385), Turn: wrong}} {
			printsNot(t, i)
		}
	}
}

// TestAnyBytes: parts are bytes; nothing in them is looked at.
func TestAnyBytes(t *testing.T) {
	var all strings.Builder
	for c := range 256 {
		all.WriteByte(byte(c))
	}
	s := all.String()
	for c := range 256 {
		prints(t, Item{From: s[c : c+1], To: s[255-c:][:1], Text: s[c:], Turn: turn(c, c%5, 2*c)})
	}
	prints(t, Item{From: s[:255], To: s[1:], Text: strings.Repeat(s, 64), Turn: turn(0, 0, 0)})
	// One part may look as if others stood in it.
	inner := slowText(item("text", turn(1, 2, 3)))
	prints(t, Item{From: inner, To: inner, Text: inner + inner, Turn: turn(1, 2, 3)})
	prints(t, Item{From: "\x00\x01", To: "\x00", Text: "\x00\x00\x00"})
}

// cutTexts are of items whose texts are cut, filled and spoiled.
func cutTexts() []string {
	var all []string
	for _, i := range []Item{{}, item("", turn(258, 1, 300)), item("text", turn(last, 4, last)), {From: "abc", Turn: turn(0, 0, 5)}, {To: "\x00\x00\x00"}, {Text: x(40)}} {
		all = append(all, slowText(i))
	}
	return all
}

func TestCutAtEachByte(t *testing.T) {
	long := slowText(Item{From: x(255), To: x(255), Text: x(16384), Turn: turn(1, 2, 3)})
	for _, s := range append(cutTexts(), long) {
		for at := range len(s) {
			noItem(t, 1, s[:at])
			if at > 0 && len(s) < 1000 {
				agrees(t, 1, s[at:])
				agrees(t, 1, s[:at-1]+s[at:])
			}
		}
	}
}

func TestTooMany(t *testing.T) {
	for _, s := range cutTexts() {
		for c := range 256 {
			more := string([]byte{byte(c)})
			noItem(t, 1, s+more)
			agrees(t, 1, more+s)
			for at := range len(s) {
				if c < 4 || c > 253 {
					agrees(t, 1, s[:at]+more+s[at:])
				}
			}
		}
		noItem(t, 1, s+s)
		noItem(t, 1, s+x(100000))
	}
}

// TestLengthsThatSayOther than what is there, more or less.
func TestLengthsThatSayOther(t *testing.T) {
	s := slowText(Item{From: "abc", To: "de", Text: "fghi", Turn: turn(1, 2, 3)})
	for _, at := range []int{0, 5, 9} {
		right := binary.BigEndian.Uint16([]byte(s[at:]))
		for length := range 1 << 16 {
			other := []byte(s)
			binary.BigEndian.PutUint16(other[at:], uint16(length))
			if length != int(right) {
				noItem(t, 1, string(other))
			}
		}
	}
	// Of which a part is there, but is longer than it may be.
	for from, to := range map[int]int{256: 0, 257: 0, 0: 256, 65535: 65535} {
		noItem(t, 1, slowText(Item{From: x(from), To: x(to)}))
	}
	noItem(t, 1, slowText(Item{Text: x(16385)}))
	noItem(t, 1, slowText(Item{Text: x(65535)}))
}

// TestNumbersThatDoNotFit: of eight bytes, more than any time has, or than an int holds.
func TestNumbersThatDoNotFit(t *testing.T) {
	head := "\x00\x01a\x00\x01b\x00\x00"
	numbers := []uint64{0, 1, 4, 5, 255, 256, 1 << 32, last, last + 1, 1 << 41, 1 << 48, 1<<63 - 1, 1 << 63, 1<<63 + 1, 1<<63 + last, 1<<64 - 1, 1<<64 - 5, 1 << 56}
	rights := 0
	for _, born := range numbers {
		for _, tries := range numbers {
			for _, due := range numbers {
				var b bytes.Buffer
				binary.Write(&b, binary.BigEndian, []uint64{born, tries, due})
				if right := born <= due && due <= last && tries < 5; right {
					rights++
					got, e := Parse(5, head+b.String())
					if want := (Item{Id: 5, From: "a", To: "b", Turn: turn(int(born), int(tries), int(due))}); got != want || e != api.OK {
						t.Error(brief(got), e)
					}
				} else {
					noItem(t, 5, head+b.String())
				}
			}
		}
	}
	if rights != 36*3 {
		t.Error(rights)
	}
}

// TestEachByteSpoiled: to each other byte.
func TestEachByteSpoiled(t *testing.T) {
	counts := map[api.Errno]int{}
	for _, s := range cutTexts() {
		for at := range len(s) {
			for c := range 256 {
				counts[agrees(t, 1, s[:at]+string([]byte{byte(c)})+s[at+1:])]++
			}
		}
	}
	if counts[api.OK] < 1000 || counts[api.ErrForm] < 1000 {
		t.Error("so few of an error:", counts)
	}
}

// TestShortTexts: ones of fewer bytes than the shortest text has are none, whatever they are.
func TestShortTexts(t *testing.T) {
	for size := range 30 {
		for _, c := range []string{"\x00", "\x01", "\x02", "\xff"} {
			noItem(t, 1, strings.Repeat(c, size))
		}
	}
	for size := 30; size < 80; size++ {
		for _, c := range []string{"\x00", "\x01", "\x02", "\xff"} {
			agrees(t, 1, strings.Repeat(c, size))
		}
	}
}

func anyTurn(r *rand.Rand) retry.Turn {
	born := []int{r.Intn(5), r.Intn(last + 1), last - r.Intn(3)}[r.Intn(3)]
	return turn(born, r.Intn(5), min(born+[]int{0, r.Intn(50), r.Intn(last)}[r.Intn(3)], last))
}

func anyBytes(r *rand.Rand, most int) string {
	b := make([]byte, r.Intn(most+1))
	for i := range b {
		b[i] = []byte{0, 1, 2, 'x', byte(r.Intn(256))}[r.Intn(5)]
	}
	return string(b)
}

func TestAnyItem(t *testing.T) {
	r := rand.New(rand.NewSource(161))
	seen := map[string]Item{}
	for range 3000 {
		i := Item{From: anyBytes(r, 6), To: anyBytes(r, 6), Text: anyBytes(r, 12), Turn: anyTurn(r)}
		s, _ := Print(i)
		if other, ok := seen[s]; ok && other != i {
			t.Errorf("%s and %s have one text", brief(i), brief(other))
		}
		seen[s] = i
		prints(t, i)
		b := []byte(s)
		b[r.Intn(len(b))] += byte(1 + r.Intn(255))
		agrees(t, 1+r.Intn(100), string(b))
	}
	for range 200 {
		prints(t, Item{From: anyBytes(r, 255), To: anyBytes(r, 255), Text: anyBytes(r, 16384), Turn: anyTurn(r)})
	}
}
