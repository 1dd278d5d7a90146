package mailbox

import (
	"fmt"
	"maps"
	"math/rand"
	"slices"
	"strings"
	"testing"

	"mailguard/api"
	"mailguard/wal"
)

// TestExample is the chapter's.
func TestExample(t *testing.T) {
	s := store(t)
	delivers(t, s, "ann", "low.1", "hi")
	if got := List(s, "ann"); !slices.Equal(got, []string{"low.1"}) {
		t.Errorf("%q", got)
	}
}

func TestDeliver(t *testing.T) {
	s := store(t)
	comes(t, s, "ann", "low.1", "hi")
	comes(t, s, "ann", "low.2", "")
	comes(t, s, "bob", "low.1", "\x00\r\n\xff/")
	want := box{texts: map[string]string{"low.1": "hi", "low.2": ""}, came: map[string]int{"low.1": 1, "low.2": 1}}
	tells(t, s, "ann", want, "low.3", "low", "hi")
	if got, want := whole(s), map[string]string{"m/ann/low.1": "hi", "m/ann/low.2": "", "m/bob/low.1": "\x00\r\n\xff/", "s/ann/low.1": "", "s/ann/low.2": "", "s/bob/low.1": ""}; !maps.Equal(got, want) {
		t.Errorf("%q", got)
	}
}

func TestTextsOfTheEdges(t *testing.T) {
	for _, size := range []int{0, 1, 2, 255, 256, 998, 999, 16382, 16383, 16384} {
		s := store(t)
		comes(t, s, "ann", "a", x(size))
		comes(t, s, "ann", "b", strings.Repeat("\x00", size))
		comes(t, s, "ann", "c", strings.Repeat("\r\n", size/2))
	}
	s := store(t)
	for _, size := range []int{16385, 16386, 32768, 65535, 65536, 65536 + 16384, 1 << 20} {
		comesNot(t, s, api.ErrLong, "ann", "a", x(size))
		comesNot(t, s, api.ErrLong, "ann", "a", strings.Repeat("\r\n", size/2+1))
		if len(whole(s)) != 0 {
			t.Fatal(whole(s))
		}
	}
}

func TestNamesOfTheEdges(t *testing.T) {
	users := []string{"a", "-", "0", "z9-", "abcdefghijklmnop", strings.Repeat("-", 16)}
	tags := []string{"a", "-", ".", "..", "0", "m", "s", "z9-.", x(31), x(32), strings.Repeat(".", 32), "6789.-6789.-6789.-6789.-6789.-67"}
	s := store(t)
	want := newBox()
	for n, tag := range tags {
		want.texts[tag], want.came[tag] = fmt.Sprint("text", n), 1
		for _, user := range users {
			isNone(t, s, api.ErrNone, user, tag)
			comes(t, s, user, tag, want.texts[tag])
		}
		for _, user := range users {
			tells(t, s, user, want, tags[:n+1]...)
		}
	}
	for _, user := range users {
		for _, tag := range tags {
			goes(t, s, user, tag)
		}
		tells(t, s, user, box{came: want.came}, tags...)
	}
	if got := s.Keys("m"); len(got) != 0 {
		t.Errorf("%q", got)
	}
}

// TestOnce: a message comes once, whatever its text is, also behind its deletion and in a store that is opened again.
func TestOnce(t *testing.T) {
	texts := []string{"one", "", "another", x(16384), "one "}
	d, s := disk(t, 4096)
	open := func() {
		opened, e := wal.Open(d, 0, 4096)
		if e != api.OK {
			t.Fatal(e)
		}
		s = opened
	}
	for n, first := range texts {
		tag := fmt.Sprint("low.", n)
		comes(t, s, "ann", tag, first)
		for range 2 {
			for _, text := range texts {
				comesNot(t, s, api.OK, "ann", tag, text)
				delivers(t, s, "ann", tag, text)
			}
			if got, e := Read(s, "ann", tag); got != first || e != api.OK {
				t.Errorf("%s, not %s: %d", brief(got), brief(first), e)
			}
			open()
		}
		goes(t, s, "ann", tag)
		for range 2 {
			for _, text := range texts {
				comesNot(t, s, api.OK, "ann", tag, text)
				delivers(t, s, "ann", tag, text)
			}
			isNone(t, s, api.ErrNone, "ann", tag)
			open()
		}
	}
	if got := s.Keys("s/ann/"); len(got) != len(texts) || len(s.Keys("")) != len(texts) {
		t.Errorf("%q", got)
	}
}

// TestAheadOfTheCommit: what isn't committed hasn't come, and hasn't gone.
func TestAheadOfTheCommit(t *testing.T) {
	s := store(t)
	for range 3 {
		changes, e := Deliver(s, "ann", "a", "text")
		if len(changes) != 2 || e != api.OK || Came(s, "ann", "a") || len(List(s, "ann")) != 0 {
			t.Errorf("%+v %d", changes, e)
		}
	}
	comes(t, s, "ann", "a", "text")
	for range 3 {
		changes, e := Delete(s, "ann", "a")
		if len(changes) != 1 || e != api.OK || !Came(s, "ann", "a") || len(List(s, "ann")) != 1 {
			t.Errorf("%+v %d", changes, e)
		}
	}
	goes(t, s, "ann", "a")
}

// TestSeveralAtOnce: changes of several calls may be committed together, and beside others' ones.
func TestSeveralAtOnce(t *testing.T) {
	s := store(t)
	comes(t, s, "ann", "a", "one")
	one, _ := Delete(s, "ann", "a")
	two, _ := Deliver(s, "ann", "b", "two")
	three, _ := Deliver(s, "bob", "a", "three")
	commits(t, s, slices.Concat(one, two, three, []wal.Change{has("q", "1")})...)
	if got, want := whole(s), map[string]string{"m/ann/b": "two", "m/bob/a": "three", "q": "1", "s/ann/a": "", "s/ann/b": "", "s/bob/a": ""}; !maps.Equal(got, want) {
		t.Errorf("%q", got)
	}
}

// TestNotThere: of a message that never came, that went, that is another's, or that is told in another way.
func TestNotThere(t *testing.T) {
	s := store(t)
	users := []string{"ann", "anna", "an", "nna", "a", "m", "s", "ann-"}
	tags := []string{"low.1", "low.", "low", "low.11", "low.12", "ow.1", "1", ".", "ann", "m", "s"}
	ask := func(but ...string) {
		t.Helper()
		for _, user := range users {
			for _, tag := range tags {
				if !slices.Contains(but, user+"/"+tag) {
					isNone(t, s, api.ErrNone, user, tag)
				}
				if Came(s, user, tag) != (user == "ann" && tag == "low.1" && len(s.Keys("s")) > 0) {
					t.Errorf("Came %q %q", user, tag)
				}
			}
		}
	}
	ask()
	comes(t, s, "ann", "low.1", "text")
	ask("ann/low.1")
	goes(t, s, "ann", "low.1")
	ask()
}

// TestUsersApart: whoever's name begins as another's, is another's tag, or differs in one byte; what is done in one mailbox is told of no other one.
func TestUsersApart(t *testing.T) {
	users := []string{"a", "an", "ann", "anna", "ann-", "ann-a", "ann0", "nn", "b", "m", "s", "m-ann", "-", "--", "low", "1"}
	tags := []string{"a", "an", "ann", "anna", "ann.a", "low.1", "low", "1", ".", "-", "m", "s"}
	s := store(t)
	want := map[string]box{}
	for _, user := range users {
		want[user] = newBox()
	}
	all := func() {
		t.Helper()
		for _, user := range users {
			tells(t, s, user, want[user], tags...)
		}
	}
	all()
	for n, user := range users {
		for k, tag := range tags {
			if (n+k)%3 == 0 {
				text := fmt.Sprint(user, "'s ", tag)
				comes(t, s, user, tag, text)
				want[user].texts[tag], want[user].came[tag] = text, 1
			}
		}
		all()
	}
	for _, user := range users {
		for _, tag := range want[user].tags() {
			goes(t, s, user, tag)
			delete(want[user].texts, tag)
		}
		all()
	}
}

// TestListRises: by bytes, whichever came first; tags that begin as others stand behind these.
func TestListRises(t *testing.T) {
	want := []string{"-", "--", "-.", "-a", ".", ".-", "..", "0", "0-", "0.", "00", "1", "10", "2", "9", "a", "a-", "a.", "a.1", "a.10", "a.2", "a0", "aa", "b", "low-1", "low.1", "low.10", "low.11", "low.2", "low1", "z", "z.", "zz"}
	for seed := range 20 {
		s := store(t)
		order := rand.New(rand.NewSource(int64(seed))).Perm(len(want))
		var there []string
		for n, at := range order {
			for _, user := range []string{"an", "ann", "anna", "bob"}[n%2:] {
				delivers(t, s, user, want[at], "text")
			}
			there = append(there, want[at])
			slices.Sort(there)
			if got := List(s, "anna"); !slices.Equal(got, there) {
				t.Fatalf("%q, not %q", got, there)
			}
		}
		if !slices.Equal(there, want) {
			t.Fatalf("%q", there)
		}
		for n, at := range order {
			goes(t, s, "anna", want[at])
			if got := List(s, "anna"); len(got) != len(want)-n-1 || !slices.IsSorted(got) {
				t.Fatalf("%q", got)
			}
		}
		if got := List(s, "bob"); !slices.Equal(got, want) {
			t.Errorf("%q", got)
		}
	}
}

func TestManyMessages(t *testing.T) {
	s := store(t)
	b := newBox()
	for n := range 500 {
		tag := fmt.Sprint("low.", n)
		b.texts[tag], b.came[tag] = fmt.Sprint("text", n), 1
		delivers(t, s, "ann", tag, b.texts[tag])
		delivers(t, s, fmt.Sprint("user", n%7), tag, "text")
		delivers(t, s, "zoe", tag, "")
	}
	tells(t, s, "ann", b, "low.500", "low.0500")
	if got := List(s, "user3"); len(got) != 71 || got[0] != "low.10" || got[70] != "low.94" {
		t.Errorf("%q", got)
	}
}

// TestEmptyStore tells nothing.
func TestEmptyStore(t *testing.T) {
	s := store(t)
	for _, user := range []string{"a", "ann", x(16), "-"} {
		tells(t, s, user, newBox(), "a", "low.1", x(32), ".", "-")
		isNone(t, s, api.ErrNone, user, "low.1")
	}
}

// TestListsAreApart: what is done with an answer changes no other one, and no mailbox.
func TestListsAreApart(t *testing.T) {
	s := store(t)
	want := []string{"a", "b", "c", "d", "e"}
	for _, tag := range want {
		delivers(t, s, "ann", tag, tag)
	}
	one, two := List(s, "ann"), List(s, "ann")
	_ = append(one[:1], make([]string, cap(one)-1)...)
	if !slices.Equal(two, want) || !slices.Equal(List(s, "ann"), want) {
		t.Error("two lists share their tags")
	}
	for _, call := range []func() []wal.Change{
		func() []wal.Change { l, _ := Deliver(s, "ann", "f", "text"); return l },
		func() []wal.Change { l, _ := Delete(s, "ann", "a"); return l },
	} {
		one, two := call(), call()
		was := slices.Clone(two)
		clear(one[:cap(one)])
		if !slices.Equal(two, was) || !slices.Equal(call(), was) {
			t.Error("two lists share their changes")
		}
	}
}

// TestPowerOff: a store whose power failed tells nothing any more, and none of the calls minds.
func TestPowerOff(t *testing.T) {
	d, s := disk(t, 40)
	comes(t, s, "ann", "a", "text")
	d.Arm(api.Cut{At: 1, Torn: 3})
	changes, _ := Deliver(s, "ann", "b", "text")
	if e := s.Commit(changes...); e != api.ErrDown {
		t.Fatal(e)
	}
	isNone(t, s, api.ErrNone, "ann", "a")
	isNone(t, s, api.ErrForm, "ann", "A")
	comesNot(t, s, api.ErrLong, "ann", "a", x(16385))
	if got, e := Deliver(s, "ann", "a", "text"); len(got) != 2 || e != api.OK || Came(s, "ann", "a") || len(List(s, "ann")) != 0 {
		t.Errorf("%+v %d", got, e)
	}
}
