package command

import (
	"fmt"
	"math"
	"math/rand"
	"strings"
	"testing"

	"mailguard/api"
)

// says checks a reply's line, and that it is read again without its end.
func says(t *testing.T, r Reply, want string) {
	t.Helper()
	line, e := Line(r)
	if line != want+"\r\n" || e != api.OK {
		t.Errorf("%s: %s %d, not %s", briefReply(r), brief(line), e, brief(want))
	}
	if slow, e := slowLine(r); slow != want+"\r\n" || e != api.OK {
		t.Errorf("%s: slowly %s %d", briefReply(r), brief(slow), e)
	}
	reads(t, want, r)
	isNoLine(t, want+"\r\n")
}

func reads(t *testing.T, line string, want Reply) {
	t.Helper()
	if r, e := Read(line); r != want || e != api.OK {
		t.Errorf("%s: %s %d, not %s", brief(line), briefReply(r), e, briefReply(want))
	}
	if r, e := slowRead(line); r != want || e != api.OK {
		t.Errorf("%s: slowly %s %d", brief(line), briefReply(r), e)
	}
}

func isNoReply(t *testing.T, r Reply) {
	t.Helper()
	if line, e := Line(r); line != "" || e != api.ErrForm {
		t.Errorf("%s: %s %d", briefReply(r), brief(line), e)
	}
	if line, e := slowLine(r); e != api.ErrForm {
		t.Errorf("%s: slowly %s %d", briefReply(r), brief(line), e)
	}
}

func isNoLine(t *testing.T, line string) {
	t.Helper()
	if r, e := Read(line); r != (Reply{}) || e != api.ErrForm {
		t.Errorf("%s: %s %d", brief(line), briefReply(r), e)
	}
	if r, e := slowRead(line); e != api.ErrForm {
		t.Errorf("%s: slowly %s %d", brief(line), briefReply(r), e)
	}
}

func TestReplies(t *testing.T) {
	says(t, Reply{220, "ready"}, "220 ready")
	says(t, Reply{250, "OK"}, "250 OK")
	says(t, Reply{354, "go on"}, "354 go on")
	says(t, Reply{452, ""}, "452 ")
	says(t, Reply{550, " no  such user "}, "550  no  such user ")
	says(t, Reply{503, "250 OK"}, "503 250 OK")
	says(t, Reply{501, "!\"#$%&'()*+,-./:;<=>?@[\\]^_`{|}~"}, "501 !\"#$%&'()*+,-./:;<=>?@[\\]^_`{|}~")
}

func TestCodes(t *testing.T) {
	for code := -1100; code <= 6100; code++ {
		for _, text := range []string{"", "x", " "} {
			r, line := Reply{code, text}, fmt.Sprintf("%d %s", code, text)
			if code >= 200 && code <= 599 {
				says(t, r, line)
			} else {
				isNoReply(t, r)
				isNoLine(t, line)
			}
		}
	}
	for _, code := range []int{0, -250, 25, 2500, 1 << 32, 1<<32 + 250, 1<<16 + 250, 256 + 250 + 256, -1<<32 + 250, math.MaxInt, math.MinInt, math.MinInt + 250} {
		isNoReply(t, Reply{code, "x"})
		isNoLine(t, fmt.Sprintf("%d x", code))
	}
}

func TestTexts(t *testing.T) {
	for _, count := range []int{0, 1, 2, 64, 255, 256, 498, 499, 500} {
		for _, letter := range []string{"x", " ", "~", "5"} {
			text := strings.Repeat(letter, count)
			says(t, Reply{250, text}, "250 "+text)
		}
	}
	for _, count := range []int{501, 502, 512, 756, 998, 1000, 20000} {
		for _, letter := range []string{"x", " ", "~", "5"} {
			text := strings.Repeat(letter, count)
			isNoReply(t, Reply{250, text})
			isNoLine(t, "250 "+text)
		}
	}
	for c := range 256 {
		for _, text := range []string{one(c), "a" + one(c), one(c) + "a", "a" + one(c) + "b", x(499) + one(c), one(c) + x(499), x(200) + one(c) + x(299)} {
			if c >= 32 && c <= 126 {
				says(t, Reply{599, text}, "599 "+text)
			} else {
				isNoReply(t, Reply{599, text})
				isNoLine(t, "599 "+text)
			}
		}
		isNoReply(t, Reply{200, x(500) + one(c)})
		isNoLine(t, "200 "+x(500)+one(c))
	}
	for _, text := range []string{"a\r\nb", "\r\n", "\r", "\n", "a\r\n", "OK\r\n250 OK", "\t", "\u00e9", "\xff", "\x00"} {
		isNoReply(t, Reply{250, text})
		isNoLine(t, "250 "+text)
	}
}

// TestReadOfWrongLines: of codes said in another way, without the blank, or with an end, as a line is read without it.
func TestReadOfWrongLines(t *testing.T) {
	for _, line := range []string{
		"", " ", "  ", "x", "OK", "\r\n", "2", "25", "250", "250\r\n", "250-", "250-OK", "250OK", "250\tOK", "250\x00OK", "250.OK", "250:OK", "250_ OK", "250- OK", "250x OK",
		"25 OK", "2 OK", " OK", "0 OK", "2500 OK", "0250 OK", "00250 OK", "000 OK", "025 OK", "099 OK", "199 OK", "600 OK", "999 OK", "0599 OK", "1250 OK",
		"+250 OK", "-250 OK", "+25 OK", "+50 OK", "-25 OK", "2+5 OK", "25. OK", "2.5 OK", "2e2 OK", "0xff OK", "0x1 OK", "2_5 OK", "2_50 OK", "25O OK", "25o OK", "2 50 OK", "25 0 OK", "a50 OK", "ABC OK", "\xb250 OK", "\u0662\u0665\u0660 OK", "\uff12\uff15\uff10 OK", "2\x000 OK", "/50 OK", ":50 OK", "2/0 OK", "2:0 OK", "25/ OK", "25: OK",
		" 250 OK", "\t250 OK", "\r\n250 OK", "x250 OK", "\x00250 OK", "\xef\xbb\xbf250 OK",
		"250 OK\r\n", "250 OK\n", "250 OK\r", "250 OK\x00", "250 OK\t", "250 OK\r\n ", "250 OK\r\nx", "250 OK\r\n250 OK", "250 OK\r\n250 OK\r\n", "250 \r\n", "599 \r\n", "250 OK\r\n\r\n",
		"18446744073709551866 OK", "4294967546 OK", strings.Repeat("2", 100) + " OK", strings.Repeat("2", 20000), x(20000), blanks(20000), strings.Repeat("0", 500) + "250 OK", "\xff\xff\xff \xff",
	} {
		isNoLine(t, line)
	}
	for c := range 256 {
		for _, line := range []string{one(c) + "50 OK", "2" + one(c) + "0 OK", "25" + one(c) + " OK", "250" + one(c) + "OK", one(c) + "250 OK", "2" + one(c) + "50 OK", "250" + one(c) + " OK", one(c), "25" + one(c), "250" + one(c)} {
			agreesRead(t, line)
		}
	}
}

// agreesRead checks a line against the slow way alone, and answers whether it is a reply's.
func agreesRead(t *testing.T, line string) bool {
	t.Helper()
	r, e := Read(line)
	if want, w := slowRead(line); r != want || e != w {
		t.Errorf("%s: %s %d, not %s %d", brief(line), briefReply(r), e, briefReply(want), w)
	}
	if e != api.OK {
		return false
	}
	if said, e := Line(r); said != line+"\r\n" || e != api.OK {
		t.Errorf("%s: said as %s %d", brief(line), brief(said), e)
	}
	return true
}

func TestReadOfAllShortLines(t *testing.T) {
	read := 0
	for _, line := range textsOf([]string{"0", "1", "2", "5", "6", "9", " ", "+", "x", "\r\n"}, 5) {
		if agreesRead(t, line) {
			read++
		}
	}
	// A 2 or 5 and two digits, the blank, and nothing or one piece but the end.
	if read != 2*6*6*(1+9) {
		t.Error("so many are replies:", read)
	}
}

// TestSaidIsRead: of any replies, those that have a line.
func TestSaidIsRead(t *testing.T) {
	r := rand.New(rand.NewSource(182))
	said := 0
	for range 30000 {
		text := make([]byte, []int{0, 1, 5, 20, 499, 500, 501}[r.Intn(7)])
		for i := range text {
			text[i] = byte(32 + r.Intn(95))
		}
		if len(text) > 0 && r.Intn(4) == 0 {
			text[r.Intn(len(text))] = byte(r.Intn(256))
		}
		reply := Reply{150 + r.Intn(500), string(text)}
		line, e := Line(reply)
		if want, w := slowLine(reply); line != want || e != w {
			t.Errorf("%s: %s %d, not %s %d", briefReply(reply), brief(line), e, brief(want), w)
		}
		if e != api.OK {
			continue
		}
		said++
		reads(t, strings.TrimSuffix(line, "\r\n"), reply)
	}
	if said < 10000 {
		t.Error("so few are said:", said)
	}
}
