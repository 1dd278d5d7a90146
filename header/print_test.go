package header

import (
	"math/rand"
	"slices"
	"strings"
	"testing"

	"mailguard/api"
)

// prints checks what fields are printed as, and against the slow way.
func prints(t *testing.T, l []api.Field, want string, e api.Errno) {
	t.Helper()
	if s, got := Print(l); s != want || got != e {
		t.Errorf("%s: %s %d, not %s %d", briefFields(l), brief(s), got, brief(want), e)
	}
	if s, got := slowPrint(l); s != want || got != e {
		t.Errorf("%s: slowly %s %d, not %s %d", briefFields(l), brief(s), got, brief(want), e)
	}
}

// folds checks what a field A of a body is printed as.
func folds(t *testing.T, body, want string) {
	t.Helper()
	prints(t, []api.Field{{Name: "A", Body: body}}, want+"\r\n\r\n", api.OK)
}

func TestPrint(t *testing.T) {
	prints(t, nil, "\r\n", api.OK)
	prints(t, []api.Field{}, "\r\n", api.OK)
	prints(t, []api.Field{{Name: "Subject", Body: "hello"}}, "Subject: hello\r\n\r\n", api.OK)
	prints(t, []api.Field{{Name: "A"}}, "A:\r\n\r\n", api.OK)
	prints(t, []api.Field{{Name: "A"}, {Name: "B", Body: "c d"}, {Name: "a"}}, "A:\r\nB: c d\r\na:\r\n\r\n", api.OK)
	prints(t, []api.Field{{Name: "A", Body: "b"}, {Name: "A", Body: "b"}}, "A: b\r\nA: b\r\n\r\n", api.OK)
	prints(t, []api.Field{{Name: "!", Body: ":"}, {Name: "~", Body: "a: b"}}, "!: :\r\n~: a: b\r\n\r\n", api.OK)
	prints(t, []api.Field{{Name: x(64)}, {Name: x(64), Body: "b"}}, x(64)+":\r\n"+x(64)+": b\r\n\r\n", api.OK)
	prints(t, []api.Field{{Name: "A", Body: "\x01\xff\xc3\xa9\x7f"}}, "A: \x01\xff\xc3\xa9\x7f\r\n\r\n", api.OK)
}

func TestFold(t *testing.T) {
	// Just 78 bytes, and one more.
	folds(t, x(40)+" "+x(34), "A: "+x(40)+" "+x(34))
	folds(t, x(40)+" "+x(35), "A: "+x(40)+"\r\n "+x(35))
	folds(t, x(75), "A: "+x(75))
	folds(t, x(73)+" b", "A: "+x(73)+" b")
	folds(t, x(74)+" b", "A: "+x(74)+"\r\n b")
	folds(t, "b "+x(73), "A: b "+x(73))
	folds(t, "b "+x(74), "A: b\r\n "+x(74))
	folds(t, "b "+x(77), "A: b\r\n "+x(77))
	folds(t, "b "+x(78), "A: b\r\n "+x(78))
	// A line begins anew with the blank.
	folds(t, x(75)+" "+x(75)+" b", "A: "+x(75)+"\r\n "+x(75)+" b")
	folds(t, x(75)+" "+x(76)+" b", "A: "+x(75)+"\r\n "+x(76)+"\r\n b")
	folds(t, x(75)+" "+x(77)+" "+x(77)+" "+x(76)+" "+"b", "A: "+x(75)+"\r\n "+x(77)+"\r\n "+x(77)+"\r\n "+x(76)+"\r\n b")
	// A first word that is too long for its line.
	folds(t, x(76), "A: "+x(76))
	folds(t, x(100), "A: "+x(100))
	folds(t, x(100)+" b", "A: "+x(100)+"\r\n b")
	folds(t, x(100)+" "+x(100)+" b", "A: "+x(100)+"\r\n "+x(100)+"\r\n b")
	folds(t, "b "+x(100)+" c", "A: b\r\n "+x(100)+"\r\n c")
	// A word's beginning counts, not its letters.
	folds(t, strings.Repeat("\xc3\xa9", 37)+" b", "A: "+strings.Repeat("\xc3\xa9", 37)+"\r\n b")
	folds(t, strings.Repeat("\xc3\xa9", 36)+" b", "A: "+strings.Repeat("\xc3\xa9", 36)+" b")
	// A tab is of a word, and no place to fold.
	folds(t, x(40)+"\t"+x(60)+" b", "A: "+x(40)+"\t"+x(60)+"\r\n b")
	folds(t, x(75)+" \t b", "A: "+x(75)+"\r\n \t b")
	folds(t, x(75)+" \t "+x(75)+" b", "A: "+x(75)+"\r\n \t "+x(75)+"\r\n b")
	folds(t, x(75)+" \t "+x(76), "A: "+x(75)+"\r\n \t\r\n "+x(76))
}

func TestFoldOfEmptyWords(t *testing.T) {
	folds(t, "a  b", "A: a  b")
	folds(t, "a   b    c", "A: a   b    c")
	folds(t, x(72)+"  b", "A: "+x(72)+"  b")
	folds(t, x(73)+"  b", "A: "+x(73)+" \r\n b")
	folds(t, x(74)+"  b", "A: "+x(74)+" \r\n b")
	folds(t, x(75)+"  b", "A: "+x(75)+" \r\n b")
	folds(t, x(75)+"   b", "A: "+x(75)+"  \r\n b")
	folds(t, x(80)+"   b  c", "A: "+x(80)+"  \r\n b  c")
	folds(t, "a"+blanksOf(74)+"b", "A: a"+blanksOf(73)+"\r\n b")
	folds(t, "a"+blanksOf(73)+"b", "A: a"+blanksOf(73)+"b")
	folds(t, "a"+blanksOf(200)+"b", "A: a"+blanksOf(199)+"\r\n b")
	folds(t, "a"+blanksOf(200)+"b"+blanksOf(200)+x(78)+"  c", "A: a"+blanksOf(199)+"\r\n b"+blanksOf(199)+"\r\n "+x(78)+" \r\n c")
	folds(t, "a  "+x(73), "A: a \r\n "+x(73))
	folds(t, "a  "+x(72), "A: a  "+x(72))
}

// TestFoldOfEachLength: names and two words of all lengths about the edge.
func TestFoldOfEachLength(t *testing.T) {
	for _, name := range []int{1, 2, 10, 38, 63, 64} {
		for first := 1; first <= 90; first++ {
			for second := 1; second <= 90; second++ {
				line := x(name) + ": " + x(first)
				between := "\r\n "
				if name+2+first+1+second <= 78 {
					between = " "
				}
				if s, e := Print([]api.Field{{Name: x(name), Body: x(first) + " " + x(second)}}); s != line+between+x(second)+"\r\n\r\n" || e != api.OK {
					t.Errorf("%d %d %d: %s %d", name, first, second, brief(s), e)
				}
			}
		}
	}
}

func TestPrintOfLongLines(t *testing.T) {
	field := func(body string) []api.Field { return []api.Field{{Name: "A", Body: body}} }
	// On the first line: a word, and blanks that aren't folded.
	prints(t, field(x(995)), "A: "+x(995)+"\r\n\r\n", api.OK)
	prints(t, field(x(996)), "", api.ErrLong)
	prints(t, field("a"+blanksOf(995)+"b"), "A: a"+blanksOf(994)+"\r\n b\r\n\r\n", api.OK)
	prints(t, field("a"+blanksOf(996)+"b"), "", api.ErrLong)
	prints(t, field(x(994)+"  b"), "A: "+x(994)+" \r\n b\r\n\r\n", api.OK)
	prints(t, field(x(995)+" b"), "A: "+x(995)+"\r\n b\r\n\r\n", api.OK)
	prints(t, field(x(995)+"  b"), "", api.ErrLong)
	prints(t, []api.Field{{Name: x(64), Body: x(932)}}, x(64)+": "+x(932)+"\r\n\r\n", api.OK)
	prints(t, []api.Field{{Name: x(64), Body: x(933)}}, "", api.ErrLong)
	// On a later one.
	prints(t, field("b "+x(997)), "A: b\r\n "+x(997)+"\r\n\r\n", api.OK)
	prints(t, field("b "+x(998)), "", api.ErrLong)
	prints(t, field(x(300)+" b"+blanksOf(997)+"c"), "A: "+x(300)+"\r\n b"+blanksOf(996)+"\r\n c\r\n\r\n", api.OK)
	prints(t, field(x(300)+" b"+blanksOf(998)+"c"), "", api.ErrLong)
	prints(t, field("b "+x(997)+" c"), "A: b\r\n "+x(997)+"\r\n c\r\n\r\n", api.OK)
	prints(t, field("b "+x(998)+" c"), "", api.ErrLong)
	prints(t, field("b c "+x(996)+"  d"), "A: b c\r\n "+x(996)+" \r\n d\r\n\r\n", api.OK)
	// Many lines, none of them long: each is counted apart, and so is each field.
	prints(t, field(strings.TrimSuffix(strings.Repeat(x(70)+" ", 100), " ")), "A: "+x(70)+strings.Repeat("\r\n "+x(70), 99)+"\r\n\r\n", api.OK)
	prints(t, field(x(995)+" "+x(997)+" "+x(997)), "A: "+x(995)+"\r\n "+x(997)+"\r\n "+x(997)+"\r\n\r\n", api.OK)
	prints(t, slices.Repeat(field(x(995)), 64), strings.Repeat("A: "+x(995)+"\r\n", 64)+"\r\n", api.OK)
	prints(t, append(slices.Repeat(field(x(995)), 63), api.Field{Name: "B", Body: x(996)}), "", api.ErrLong)
	prints(t, []api.Field{{Name: "B", Body: x(996)}, {Name: "A"}}, "", api.ErrLong)
	prints(t, field(x(100000)), "", api.ErrLong)
}

func TestPrintOfManyFields(t *testing.T) {
	for _, count := range []int{1, 2, 63, 64} {
		prints(t, slices.Repeat([]api.Field{{Name: "A", Body: "b"}}, count), strings.Repeat("A: b\r\n", count)+"\r\n", api.OK)
	}
	for _, count := range []int{65, 66, 128, 1000, 1 << 16} {
		prints(t, slices.Repeat([]api.Field{{Name: "A", Body: "b"}}, count), "", api.ErrLong)
	}
}

func TestPrintOfWrongFields(t *testing.T) {
	good := api.Field{Name: "A", Body: "b"}
	long := api.Field{Name: "A", Body: x(996)}
	for _, wrong := range []api.Field{{}, {Body: "b"}, {Name: x(65)}, {Name: "a:"}, {Name: ":"}, {Name: "a b"}, {Name: "\x20"}, {Name: "a\x7f"}, {Name: "\xff"}, {Name: "A", Body: " b"}, {Name: "A", Body: "b "}, {Name: "A", Body: "\tb"}, {Name: "A", Body: "b\t"}, {Name: "A", Body: " "}, {Name: "A", Body: "a\x00b"}, {Name: "A", Body: "a\rb"}, {Name: "A", Body: "a\nb"}, {Name: "A", Body: "a\r\n b"}, {Name: "A", Body: x(996) + " "}, {Name: x(1000), Body: x(1000)}} {
		for _, l := range [][]api.Field{{wrong}, {good, wrong}, {wrong, good}, {good, wrong, good}, {wrong, wrong},
			// Wrong goes ahead of long, wherever they stand, and ahead of too many.
			{long, wrong}, {wrong, long}, {long, good, wrong}, append(slices.Repeat([]api.Field{good}, 64), wrong), append(slices.Repeat([]api.Field{good}, 70), wrong), append([]api.Field{wrong}, slices.Repeat([]api.Field{good}, 64)...), append(slices.Repeat([]api.Field{long}, 65), wrong), slices.Repeat([]api.Field{wrong}, 65)} {
			prints(t, l, "", api.ErrForm)
		}
	}
	prints(t, make([]api.Field, 65), "", api.ErrForm)
}

// TestPrintOfAllShortBodies: behind a first word that leaves room for just three bytes more.
func TestPrintOfAllShortBodies(t *testing.T) {
	for _, s := range textsOf(" a\t", 8) {
		for _, body := range []string{x(72) + s, x(72) + " " + s + "b"} {
			l := []api.Field{{Name: "A", Body: body}, {Name: "B", Body: s}}
			for _, l := range [][]api.Field{l[:1], l[1:], l} {
				want, e := slowPrint(l)
				if got, g := Print(l); got != want || g != e {
					t.Errorf("%s: %s %d, not %s %d", briefFields(l), brief(got), g, brief(want), e)
				}
			}
		}
	}
}

// TestFoldedLines: none is longer than 78 bytes, but by one word, or by empty ones; and what stands in them is the field's line.
func TestFoldedLines(t *testing.T) {
	r := rand.New(rand.NewSource(10))
	for range 3000 {
		f := anyField(r)
		s, e := Print([]api.Field{f})
		if e != api.OK {
			continue
		}
		whole := f.Name + ":"
		if f.Body != "" {
			whole += " " + f.Body
		}
		lines := strings.Split(strings.TrimSuffix(s, "\r\n\r\n"), "\r\n")
		if joined := strings.Join(lines, ""); joined != whole {
			t.Errorf("%s, not %s", brief(joined), brief(whole))
		}
		for i, line := range lines {
			begin := 1
			if i == 0 {
				begin = min(len(f.Name)+2, len(line))
			}
			if bare := strings.TrimRight(line[begin:], " "); begin+len(bare) > 78 && strings.Contains(bare, " ") {
				t.Errorf("%s: line %d: %s", briefFields([]api.Field{f}), i, brief(line))
			}
		}
	}
}

// anyField answers a right field, of whose words many are empty or about as long as a line.
func anyField(r *rand.Rand) api.Field {
	name := make([]byte, 1+r.Intn(64))
	for i := range name {
		name[i] = "!9;Az~-"[r.Intn(7)]
	}
	var words []string
	for range r.Intn(12) {
		count := []int{0, 0, 1, r.Intn(20), 60 + r.Intn(25), r.Intn(120)}[r.Intn(6)]
		word := make([]byte, count)
		for i := range word {
			word[i] = "ab\t:\x01\xff\xc3\xa9"[r.Intn(8)]
		}
		words = append(words, string(word))
	}
	return api.Field{Name: string(name), Body: strings.Trim(strings.Join(words, " "), " \t")}
}

func TestPrintOfAnyFields(t *testing.T) {
	r := rand.New(rand.NewSource(11))
	for range 2000 {
		l := make([]api.Field, r.Intn(6))
		for i := range l {
			l[i] = anyField(r)
			if r.Intn(40) == 0 {
				l[i].Body += one(r.Intn(256))
			}
			if r.Intn(40) == 0 {
				l[i].Name += one(r.Intn(256))
			}
			if r.Intn(40) == 0 {
				l[i].Body += x(900 + r.Intn(150))
			}
		}
		want, e := slowPrint(l)
		prints(t, l, want, e)
	}
}

// TestFieldsAreTheCallers: they aren't changed, nor is the room behind them.
func TestFieldsAreTheCallers(t *testing.T) {
	l := []api.Field{{Name: "A", Body: x(75) + " b"}, {Name: "B"}, {Name: "C", Body: "c"}}
	was := slices.Clone(l)
	Print(l[:1])
	Get(l[:2], "c")
	Right(l[0])
	if !slices.Equal(l, was) {
		t.Error(briefFields(l))
	}
}
