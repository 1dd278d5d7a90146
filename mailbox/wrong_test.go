package mailbox

import (
	"maps"
	"strings"
	"testing"

	"mailguard/api"
	"mailguard/wal"
)

// wrongUsers are no users' names, each in one way.
func wrongUsers() []string {
	return append(wrongTags(), ".", "..", "a.b", "ann.", ".ann", "low.1", x(17), x(32), strings.Repeat("-", 17))
}

// wrongTags are no tags, and no users' names either.
func wrongTags() []string {
	l := []string{"", " ", "A", "Ann", "anN", "a b", "ann ", " ann", "a_b", "a/b", "/", "//", "/a", "a/", "ann/", "ann/a", "m/ann", "m/ann/", "s/ann/a", "../a", "a\x00", "\x00", "a\r\n", "a@b", "a,b", "a*", "*", "?", "\xff", "\u00e9", "\u0430nn", x(33), x(64), x(65536), x(1 << 20)}
	for b := range 256 {
		if s := string([]byte{'a', byte(b), 'n'}); !tagForm.MatchString(s) {
			l = append(l, s)
		}
	}
	return l
}

// refuses checks that each call refuses such names, whatever else is wrong.
func refuses(t *testing.T, s *wal.Store, user, tag string) {
	t.Helper()
	for _, text := range []string{"", "text", x(16384), x(16385), x(65536)} {
		if got, e := Deliver(s, user, tag, text); len(got) != 0 || e != api.ErrForm {
			t.Errorf("Deliver %s %s %s: %d changes, %d", brief(user), brief(tag), brief(text), len(got), e)
		}
	}
	if got, e := Read(s, user, tag); got != "" || e != api.ErrForm {
		t.Errorf("Read %s %s: %s %d", brief(user), brief(tag), brief(got), e)
	}
	if got, e := Delete(s, user, tag); len(got) != 0 || e != api.ErrForm {
		t.Errorf("Delete %s %s: %+v %d", brief(user), brief(tag), got, e)
	}
	if Came(s, user, tag) {
		t.Errorf("Came %s %s", brief(user), brief(tag))
	}
}

// refusesAll checks that each call refuses all wrong names.
func refusesAll(t *testing.T, s *wal.Store) {
	t.Helper()
	for _, user := range wrongUsers() {
		refuses(t, s, user, "a")
		refuses(t, s, user, "zzz")
		if got := List(s, user); len(got) != 0 {
			t.Errorf("List %s: %q", brief(user), got)
		}
	}
	for _, tag := range wrongTags() {
		refuses(t, s, "ann", tag)
		refuses(t, s, "zoe", tag)
		refuses(t, s, tag, tag)
		refuses(t, s, "a.b", tag)
	}
}

// TestWrongNames: also where keys of theirs have values.
func TestWrongNames(t *testing.T) {
	empty := store(t)
	full := store(t)
	comes(t, full, "ann", "a", "text")
	comes(t, full, "bob", "b", "text")
	var lies []wal.Change
	lie := func(user, tag string) {
		for _, kind := range []string{"m/", "s/"} {
			if key := kind + user + "/" + tag; len(key) < 100 {
				lies = append(lies, has(key, "lies"))
			}
		}
	}
	for _, user := range wrongUsers() {
		lie(user, "a")
		lie(user, "")
	}
	for _, tag := range wrongTags() {
		lie("ann", tag)
		lie("", tag)
	}
	commits(t, full, lies...)
	for _, s := range []*wal.Store{empty, full} {
		stays(t, s, func() { refusesAll(t, s) })
	}
	// What lies beside its messages is none.
	tells(t, full, "ann", box{texts: map[string]string{"a": "text"}, came: map[string]int{"a": 1}}, "b", "lies")
	tells(t, full, "bob", box{texts: map[string]string{"b": "text"}, came: map[string]int{"b": 1}}, "a", "lies")
}

// TestWhichErrorFirst: the form, then the length, then whether it came or is there.
func TestWhichErrorFirst(t *testing.T) {
	s := store(t)
	comes(t, s, "ann", "a", "text")
	comes(t, s, "ann", "b", "text")
	goes(t, s, "ann", "b")
	for _, tag := range []string{"a", "b", "c"} {
		for _, size := range []int{16385, 65536} {
			comesNot(t, s, api.ErrLong, "ann", tag, x(size))
			comesNot(t, s, api.ErrForm, "Ann", tag, x(size))
			comesNot(t, s, api.ErrForm, "", tag, x(size))
			comesNot(t, s, api.ErrForm, "ann", strings.ToUpper(tag), x(size))
		}
	}
	comesNot(t, s, api.OK, "ann", "a", x(16384))
	comesNot(t, s, api.OK, "ann", "b", x(16384))
	comes(t, s, "ann", "c", x(16384))
	for _, tag := range []string{"a", "b", "c"} {
		isNone(t, s, api.ErrForm, "a.n", tag)
		isNone(t, s, api.ErrForm, "ann", tag+"/")
	}
	isNone(t, s, api.ErrNone, "ann", "b")
	isNone(t, s, api.ErrNone, "ann", "d")
}

// others are keys beside the mailboxes', ahead of them, between and behind.
func others() []wal.Change {
	var l []wal.Change
	for _, key := range []string{
		"", "\x00", "/", "/ann/a", "a", "ann", "ann/a", "l/ann/a", "M/ann/a", "S/ann/a", "m", "m\x00", "m.ann.a", "m/", "m//", "m//a", "m/ann", "m/ann-", "m/ann.a", "m/ann/", "m/ann//", "m/ann//a", "m/ann/\x00", "m/ann/ ", "m/ann/A", "m/ann/a ", "m/ann/a/", "m/ann/a/b", "m/ann/a\x00", "m/ann/_", "m/ann/\xff", "m/ann/" + x(33), "m/ann0", "m/ann\xff/a", "m/ ann/a", "m0/ann/a", "mm/ann/a", "m/m/ann/a", "n", "n/ann/a",
		"q", "q/00000001", "r/ann/a", "s", "s\x00", "s.ann.a", "s/", "s//", "s//a", "s/ann", "s/ann/", "s/ann//", "s/ann//a", "s/ann/A", "s/ann/a ", "s/ann/a/", "s/ann/a/b", "s/ann/a\x00", "s/ann/" + x(33), "s0/ann/a", "ss/ann/a", "s/s/ann/a", "s/m/ann/a", "m/s/ann/a", "t/ann/a", "t", "z", "\xff", "\xffs/ann/a",
	} {
		l = append(l, has(key, "other"))
	}
	return l
}

// TestOtherKeys of the store are no messages, tell of none that it came, and stay.
func TestOtherKeys(t *testing.T) {
	for _, o := range append(others(), has("m/bob/a", "bob's"), has("m/anna/a", "anna's"), has("m/an/a", "an's"), has("s/bob/a", ""), has("s/ann0/a", ""), has("s/an/a", "")) {
		s := store(t, o)
		tells(t, s, "ann", newBox(), "a", "b")
		comes(t, s, "ann", "a", "text")
		tells(t, s, "ann", box{texts: map[string]string{"a": "text"}, came: map[string]int{"a": 1}}, "b")
	}
	s := store(t, others()...)
	b := newBox()
	for _, tag := range []string{"b", "a.1", ".", "-", "a", "zz", "a-"} {
		comes(t, s, "ann", tag, tag)
		b.texts[tag], b.came[tag] = tag, 1
		tells(t, s, "ann", b, "c")
		tells(t, s, "an", newBox(), tag, "n")
	}
	for _, tag := range b.tags() {
		goes(t, s, "ann", tag)
		delete(b.texts, tag)
		tells(t, s, "ann", b, "c")
	}
	for tag := range b.came {
		commits(t, s, gone("s/ann/"+tag))
	}
	if !maps.Equal(whole(s), whole(store(t, others()...))) {
		t.Error("other keys were changed")
	}
}

// TestWhatOthersLaid: a message lies where its key is, and one came where that other key is, whatever their values are.
func TestWhatOthersLaid(t *testing.T) {
	s := store(t, has("m/ann/a", x(16385)), has("s/ann/b", "value"), has("s/ann/c", ""))
	tells(t, s, "ann", box{texts: map[string]string{"a": x(16385)}, came: map[string]int{"b": 1, "c": 1}}, "d")
	comesNot(t, s, api.OK, "ann", "b", "text")
	comesNot(t, s, api.OK, "ann", "c", "text")
	comes(t, s, "ann", "a", "text")
	goes(t, s, "ann", "a")
}
