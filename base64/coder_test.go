package base64

import (
	"strings"
	"sync"
	"testing"

	"mailguard/api"
)

func TestCoderDecodesAsDecode(t *testing.T) {
	c := New()
	ask := func(row string) {
		t.Helper()
		s, e := c.Decode(row)
		if want, f := Decode(row); s != want || e != f {
			t.Errorf("%q: %q %v, not %q %v", row, s, e, want, f)
		}
	}
	for s, row := range rows() {
		if got, e := c.Decode(row); got != s || e != api.OK {
			t.Errorf("%q: %q %v", row, got, e)
		}
	}
	for _, row := range wrongRows() {
		if got, e := c.Decode(row); got != "" || e != api.ErrForm {
			t.Errorf("%q: %q %v", row, got, e)
		}
	}
	for n := range 200 {
		ask(Encode(someBytes(n)))
		ask(Fold(someBytes(n)))
		ask(strings.Repeat("A", n))
	}
}

func TestCount(t *testing.T) {
	c, other := New(), New()
	counted := func(want int) {
		t.Helper()
		if c.Count() != want || c.Count() != want {
			t.Error(c.Count(), want)
		}
	}
	counted(0)
	c.Decode("")
	counted(0)
	c.Decode("YQ==")
	counted(1)
	c.Decode("YWI=")
	counted(3)
	c.Decode("YWJj")
	counted(6)
	c.Decode("YWJj")
	counted(9)
	c.Decode(Encode(someBytes(1000)))
	counted(1009)
	for _, row := range wrongRows() {
		c.Decode(row)
		c.Decode(strings.Repeat("YWJj", 10) + row)
	}
	counted(1009)
	Decode("YWJj")
	Unfold("YWJj\r\n")
	Encode("abc")
	Fold("abc")
	other.Decode("YQ==")
	counted(1009)
	if other.Count() != 1 {
		t.Error(other.Count())
	}
}

func TestTableIsMadeWhenFirstAsked(t *testing.T) {
	for _, row := range []string{"YWJj", "", "?"} {
		c := New()
		c.Count()
		if c.worths != (table{}) {
			t.Errorf("%q: made ahead", row)
		}
		c.Decode(row)
		if c.worths['A'] != 0 || c.worths['/'] != 63 || c.worths['='] != none || c.worths[0] != none {
			t.Errorf("%q: not made", row)
		}
		// A second asking must find the same table, not make it anew.
		c.worths['?'] = 0
		if s, e := c.Decode("????"); s != "\x00\x00\x00" || e != api.OK {
			t.Errorf("%q: made twice", row)
		}
	}
}

func TestManyAskOneCoder(t *testing.T) {
	c := New()
	var all sync.WaitGroup
	for range 8 {
		all.Go(func() {
			for n := range 100 {
				s := someBytes(n)
				if got, e := c.Decode(Encode(s)); got != s || e != api.OK {
					t.Errorf("%q %v", got, e)
				}
				c.Decode("YQ=")
			}
		})
	}
	all.Wait()
	if c.Count() != 8*99*100/2 {
		t.Error(c.Count())
	}
}
