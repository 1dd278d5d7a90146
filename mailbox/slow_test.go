package mailbox

import (
	"fmt"
	"maps"
	"regexp"
	"slices"
	"strings"
	"testing"

	"mailguard/api"
	"mailguard/sector"
	"mailguard/wal"
)

func x(count int) string { return strings.Repeat("x", count) }

// brief tells a text so that its bytes are seen, of a long one the number.
func brief(s string) string {
	if len(s) > 60 {
		return fmt.Sprintf("%q..%d", s[:20], len(s)-20)
	}
	return fmt.Sprintf("%q", s)
}

var (
	userForm = regexp.MustCompile(`\A[a-z0-9-]{1,16}\z`)
	tagForm  = regexp.MustCompile(`\A[a-z0-9.-]{1,32}\z`)
	keyForm  = regexp.MustCompile(`\A([ms])/([a-z0-9-]{1,16})/([a-z0-9.-]{1,32})\z`)
)

// box is a mailbox as maps tell it.
type box struct {
	texts map[string]string
	came  map[string]int
}

func newBox() box { return box{texts: map[string]string{}, came: map[string]int{}} }

// copy is a box like it, that goes its own way.
func (b box) copy() box { return box{texts: maps.Clone(b.texts), came: maps.Clone(b.came)} }

func (b box) tags() []string { return slices.Sorted(maps.Keys(b.texts)) }

func (b box) same(other box) bool {
	return maps.Equal(b.texts, other.texts) && maps.Equal(b.came, other.came)
}

// boxes reads all of a store's keys; what is none of a mailbox is left out, and so are users of whom nothing is told.
func boxes(s *wal.Store) map[string]box {
	all := map[string]box{}
	for key, value := range whole(s) {
		parts := keyForm.FindStringSubmatch(key)
		if parts == nil {
			continue
		}
		if _, ok := all[parts[2]]; !ok {
			all[parts[2]] = newBox()
		}
		if parts[1] == "m" {
			all[parts[2]].texts[parts[3]] = value
		} else {
			all[parts[2]].came[parts[3]] = 1
		}
	}
	return all
}

// boxOf is a user's box, empty if nothing is told of it.
func boxOf(s *wal.Store, user string) box {
	if b, ok := boxes(s)[user]; ok {
		return b
	}
	return newBox()
}

// whole: all keys of a store, and their values.
func whole(s *wal.Store) map[string]string {
	all := map[string]string{}
	for _, key := range s.Keys("") {
		all[key], _ = s.Get(key)
	}
	return all
}

// has is a change by which a key has a value.
func has(key, value string) wal.Change { return wal.Change{Key: key, Value: value} }

// gone is a change by which a key goes.
func gone(key string) wal.Change { return wal.Change{Key: key, Gone: true} }

// disk is one, and a store on all of it.
func disk(t *testing.T, sectors int) (*sector.Disk, *wal.Store) {
	t.Helper()
	d, e := sector.New(sectors)
	if e != api.OK {
		t.Fatal(e)
	}
	s, e := wal.Make(d, 0, sectors)
	if e != api.OK {
		t.Fatal(e)
	}
	return d, s
}

// store is one of such keys.
func store(t *testing.T, l ...wal.Change) *wal.Store {
	t.Helper()
	_, s := disk(t, 4096)
	commits(t, s, l...)
	return s
}

func commits(t *testing.T, s *wal.Store, l ...wal.Change) {
	t.Helper()
	if e := s.Commit(l...); e != api.OK {
		t.Fatal(e)
	}
}

// stays checks that what is done leaves the store as it is.
func stays(t *testing.T, s *wal.Store, do func()) {
	t.Helper()
	before := whole(s)
	do()
	if !maps.Equal(before, whole(s)) {
		t.Error("a call changed the store")
	}
}

// comes checks the changes by which a message comes, and commits them.
func comes(t *testing.T, s *wal.Store, user, tag, text string) {
	t.Helper()
	stays(t, s, func() {
		want := []wal.Change{has("m/"+user+"/"+tag, text), has("s/"+user+"/"+tag, "")}
		got, e := Deliver(s, user, tag, text)
		if !slices.Equal(got, want) || e != api.OK {
			t.Errorf("Deliver %q %q %s: %d changes, %d", user, tag, brief(text), len(got), e)
		}
	})
	delivers(t, s, user, tag, text)
	if got, e := Read(s, user, tag); got != text || e != api.OK || !Came(s, user, tag) || !slices.Contains(List(s, user), tag) {
		t.Errorf("behind Deliver %q %q %s: %s %d", user, tag, brief(text), brief(got), e)
	}
}

// comesNot checks that nothing comes, and which error that is.
func comesNot(t *testing.T, s *wal.Store, want api.Errno, user, tag, text string) {
	t.Helper()
	stays(t, s, func() {
		if got, e := Deliver(s, user, tag, text); len(got) != 0 || e != want {
			t.Errorf("Deliver %s %s %s: %d changes, %d, not %d", brief(user), brief(tag), brief(text), len(got), e, want)
		}
	})
}

// delivers has a message come, or come again.
func delivers(t *testing.T, s *wal.Store, user, tag, text string) {
	t.Helper()
	changes, e := Deliver(s, user, tag, text)
	if e != api.OK {
		t.Fatal(e)
	}
	commits(t, s, changes...)
}

// goes checks the change by which a message goes, and commits it.
func goes(t *testing.T, s *wal.Store, user, tag string) {
	t.Helper()
	var changes []wal.Change
	stays(t, s, func() {
		var e api.Errno
		changes, e = Delete(s, user, tag)
		if !slices.Equal(changes, []wal.Change{gone("m/" + user + "/" + tag)}) || e != api.OK {
			t.Errorf("Delete %q %q: %+v %d", user, tag, changes, e)
		}
	})
	commits(t, s, changes...)
	isNone(t, s, api.ErrNone, user, tag)
	if !Came(s, user, tag) {
		t.Errorf("%q %q went, and never came", user, tag)
	}
}

// isNone checks that a message is neither read nor deleted, and which error that is.
func isNone(t *testing.T, s *wal.Store, want api.Errno, user, tag string) {
	t.Helper()
	stays(t, s, func() {
		if got, e := Read(s, user, tag); got != "" || e != want {
			t.Errorf("Read %s %s: %s %d, not %d", brief(user), brief(tag), brief(got), e, want)
		}
		if got, e := Delete(s, user, tag); len(got) != 0 || e != want {
			t.Errorf("Delete %s %s: %+v %d, not %d", brief(user), brief(tag), got, e, want)
		}
	})
	if slices.Contains(List(s, user), tag) {
		t.Errorf("List %s: %s is there", brief(user), brief(tag))
	}
}

// tells checks all that a user's mailbox tells, of those tags too, which may have come or not.
func tells(t *testing.T, s *wal.Store, user string, want box, tags ...string) {
	t.Helper()
	stays(t, s, func() {
		if got := List(s, user); !slices.Equal(got, want.tags()) {
			t.Errorf("List %q: %q, not %q", user, got, want.tags())
		}
		for _, tag := range append(append(slices.Clone(tags), want.tags()...), slices.Sorted(maps.Keys(want.came))...) {
			text, ok := want.texts[tag]
			wanted := api.OK
			if !ok {
				wanted = api.ErrNone
			}
			if got, e := Read(s, user, tag); got != text || e != wanted {
				t.Errorf("Read %q %q: %s %d, not %s", user, tag, brief(got), e, brief(text))
			}
			if got := Came(s, user, tag); got != (want.came[tag] == 1) {
				t.Errorf("Came %q %q: %v", user, tag, got)
			}
		}
	})
}
