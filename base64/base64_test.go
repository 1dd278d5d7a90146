package base64

import (
	"slices"
	"strings"
	"testing"

	"mailguard/api"
)

// The letters as the chapter tells them, apart from the program's own.
const told = "ABCDEFGHIJKLMNOPQRSTUVWXYZ" + "abcdefghijklmnopqrstuvwxyz" + "0123456789" + "+/"

// slowly makes letters bit by bit, in another way than the program.
func slowly(s string) string {
	var bits []byte
	for i := range len(s) {
		for bit := 7; bit >= 0; bit-- {
			bits = append(bits, s[i]>>bit&1)
		}
	}
	for len(bits)%6 != 0 {
		bits = append(bits, 0)
	}
	var row []byte
	for six := range slices.Chunk(bits, 6) {
		worth := 0
		for _, bit := range six {
			worth = 2*worth + int(bit)
		}
		row = append(row, told[worth])
	}
	for len(row)%4 != 0 {
		row = append(row, '=')
	}
	return string(row)
}

// someBytes answers that many bytes of all kinds.
func someBytes(count int) string {
	some := make([]byte, count)
	for i := range some {
		some[i] = byte(i*i*31 + i*7 + 0xa5)
	}
	return string(some)
}

// rows: bytes, and their letters.
func rows() map[string]string {
	return map[string]string{
		"":                         "",
		"a":                        "YQ==",
		"f":                        "Zg==",
		"fo":                       "Zm8=",
		"foo":                      "Zm9v",
		"foob":                     "Zm9vYg==",
		"fooba":                    "Zm9vYmE=",
		"foobar":                   "Zm9vYmFy",
		"\x00":                     "AA==",
		"\x00\x00":                 "AAA=",
		"\x00\x00\x00":             "AAAA",
		"\xff":                     "/w==",
		"\xff\xff":                 "//8=",
		"\xff\xff\xff":             "////",
		"\x00\xff\x10":             "AP8Q",
		"\xfb\xff":                 "+/8=",
		"\xc3\xa9":                 "w6k=",
		"\r\n":                     "DQo=",
		"=":                        "PQ==",
		"\x14\xfb\x9c\x03\xd9\x7e": "FPucA9l+",
	}
}

// wrongRows: letters of no bytes.
func wrongRows() []string {
	return []string{
		// No multiple of four.
		"Y", "YQ", "YWJ", "YWJjY", "YWJjYQ", "YWJjYWJ", "A", "AA", "AAA", "AAAAA", "AAAAAA", "AAAAAAA",
		// One = or two too many or too few.
		"YQ=", "YQ===", "YQ====", "YWI", "YWI==", "YWI===", "YWJj=", "YWJj==", "YWJj===", "YWJj====", "Y===", "Y==", "Y=",
		"AAAA====", "AAAAA===", "AAA===", "AA======",
		// = alone, or elsewhere than at the end.
		"=", "==", "===", "====", "=====", "========", "=AAA", "A=AA", "AA=A", "==AA", "A==A", "=AA=", "A=A=", "=A==", "=A=A", "A===",
		"YQ==YQ==", "YWI=YWI=", "YWI=YWJj", "YQ==YWJj", "=YQ=", "==YQ", "Y=Q=", "YQ=A", "AA=AAAAA", "AAA=AAAA",
		// Bits that are filled up with something else than noughts.
		"YR==", "YS==", "YU==", "YY==", "Yf==", "Y/==", "YWJ=", "YWK=", "YWL=", "YW/=", "YWJjYR==", "YWJjYWJ=", "AB==", "AAB=", "//==", "///=",
		// Letters that are none.
		"Y Q=", "YQ-=", "YQ_=", "YQ\x00=", "YQ= ", " YQ==", "YQ== ", "YQ==\r\n", "\r\nYQ==", "YQ\r\n==", "Y\r\nQ==", "YWJj\r\n", "YWJj\n", "\r\n\r\n",
		"????", "A-_A", "AAA,", "AAA.", "AAA\t", "AAA\n", "AAA\r", "AAA\xff", "\x80AAA", "AA\u00e9", "A\x00AA", "AAA:", "AAA@", "AAA[", "AAA`", "AAA{",
		"    ", "\x00\x00\x00\x00", "\xff\xff\xff\xff", "AAAA AAA", "AAAA\r\nAA", "AAAA!AAA",
	}
}

func isRow(t *testing.T, s, row string) {
	t.Helper()
	if got := Encode(s); got != row {
		t.Errorf("%q: %q, not %q", s, got, row)
	}
	if got, e := Decode(row); got != s || e != api.OK {
		t.Errorf("%q: %q %v, not %q", row, got, e, s)
	}
}

func isNoRow(t *testing.T, row string) {
	t.Helper()
	if got, e := Decode(row); got != "" || e != api.ErrForm {
		t.Errorf("%q: %q %v", row, got, e)
	}
}

func TestRows(t *testing.T) {
	for s, row := range rows() {
		isRow(t, s, row)
	}
}

func TestRowOfAllLetters(t *testing.T) {
	s, e := Decode(told)
	if len(s) != 48 || e != api.OK {
		t.Fatalf("%q %v", s, e)
	}
	isRow(t, s, slowly(s))
	isRow(t, s, told)
}

func TestRowsOfEachByte(t *testing.T) {
	for c := range 256 {
		one := string([]byte{byte(c)})
		for _, s := range []string{one, one + one, one + one + one, "x" + one, "xy" + one, one + "xyz", "xyz" + one, "wxyz" + one} {
			isRow(t, s, slowly(s))
		}
	}
	var all []byte
	for c := range 256 {
		all = append(all, byte(c))
	}
	isRow(t, string(all), slowly(string(all)))
}

func TestRowsOfTwoBytes(t *testing.T) {
	for both := range 1 << 16 {
		s := string([]byte{byte(both >> 8), byte(both)})
		isRow(t, s, slowly(s))
	}
}

func TestRowsOfEachLength(t *testing.T) {
	for n := range 400 {
		for _, s := range []string{someBytes(n), strings.Repeat("\x00", n), strings.Repeat("\xff", n)} {
			isRow(t, s, slowly(s))
		}
	}
	s := someBytes(100003)
	isRow(t, s, slowly(s))
}

func TestWrongRows(t *testing.T) {
	for _, row := range wrongRows() {
		isNoRow(t, row)
		isNoRow(t, "AAAA"+row)
		isNoRow(t, strings.Repeat("YWJj", 19)+row)
	}
}

// shortRows: those of all single bytes and pairs of bytes.
func shortRows() map[string]struct{} {
	short := map[string]struct{}{}
	for both := range 1 << 16 {
		short[slowly(string([]byte{byte(both >> 8), byte(both)}))] = struct{}{}
		short[slowly(string([]byte{byte(both)}))] = struct{}{}
	}
	return short
}

func TestEachByteAtEachPlace(t *testing.T) {
	short := shortRows()
	for _, right := range []string{"AAAA", "AAA=", "AA==", "Zm9v", "Zm8=", "Zg==", "////", "//8=", "/w=="} {
		for at := range 4 * 256 {
			place, c := at/256, byte(at)
			row := right[:place] + string([]byte{c}) + right[place+1:]
			_, ok := short[row]
			// Of three bytes each row of four letters is one.
			if !ok && strings.Trim(row, told) != "" {
				isNoRow(t, row)
				isNoRow(t, "Zm9v"+row)
				continue
			}
			for _, ahead := range []string{"", "Zm9v"} {
				if s, e := Decode(ahead + row); e != api.OK || slowly(s) != ahead+row {
					t.Errorf("%q: %q %v", ahead+row, s, e)
				}
			}
		}
	}
}

func TestBitsThatAreFilledUp(t *testing.T) {
	for first := range 64 {
		for last := range 64 {
			row := string([]byte{told[first], told[last], '=', '='})
			if last%16 == 0 {
				isRow(t, string([]byte{byte(first<<2 | last>>4)}), row)
			} else {
				isNoRow(t, row)
			}
			row = string([]byte{'A', told[first], told[last], '='})
			if last%4 == 0 {
				isRow(t, string([]byte{byte(first >> 4), byte(first<<4 | last>>2)}), row)
			} else {
				isNoRow(t, row)
			}
		}
	}
}

func TestEncodedIsDecodedAgain(t *testing.T) {
	s := someBytes(50)
	for range 5 {
		row := Encode(s)
		if got, e := Decode(row); got != s || e != api.OK {
			t.Errorf("%q %v", got, e)
		}
		s = row
	}
}

func TestNoTwoTextsHaveOneRow(t *testing.T) {
	of := map[string]string{}
	for n := range 4 {
		for i := range 1 << (4 * n) {
			var s []byte
			for at := range n {
				s = append(s, byte(i>>(4*at)&15*17))
			}
			row := Encode(string(s))
			if other, twice := of[row]; twice {
				t.Errorf("%q: %q and %q", row, other, s)
			}
			of[row] = string(s)
		}
	}
}
