package spool

import (
	"fmt"
	"maps"
	"math"
	"slices"
	"strings"
	"testing"

	"mailguard/api"
	"mailguard/retry"
	"mailguard/wal"
)

// few are items that are right, each another one.
func few(count int) []Item {
	var l []Item
	for n := range count {
		l = append(l, Item{From: fmt.Sprint("from", n), To: fmt.Sprint("to", n), Text: fmt.Sprint("text", n), Turn: turn(n, n%5, n+3)})
	}
	return l
}

// numbered is how items lie in a queue, the first one under that number.
func numbered(first int, l ...Item) []Item {
	l = slices.Clone(l)
	for n := range l {
		l[n].Id = first + n
	}
	return l
}

// comes checks the changes by which items come, the first one under that number.
func comes(t *testing.T, s *wal.Store, first int, l ...Item) {
	t.Helper()
	var want []wal.Change
	for n, i := range l {
		want = append(want, has(fmt.Sprintf("q/%08d", first+n), slowText(i)))
	}
	if len(l) > 0 {
		want = append(want, has("q", fmt.Sprint(first+len(l)-1)))
	}
	before := whole(s)
	if got, e := Add(s, l...); !slices.Equal(got, want) || e != api.OK {
		t.Errorf("Add of %d, the first one %d: %+v %d", len(l), first, got, e)
	}
	if !maps.Equal(before, whole(s)) {
		t.Error("Add changed the store")
	}
}

func comesNot(t *testing.T, s *wal.Store, want api.Errno, l ...Item) {
	t.Helper()
	before := whole(s)
	if got, e := Add(s, l...); len(got) != 0 || e != want {
		t.Errorf("Add of %d: %+v %d, not %d", len(l), got, e, want)
	}
	if !maps.Equal(before, whole(s)) {
		t.Error("Add changed the store")
	}
}

// TestExample is the chapter's.
func TestExample(t *testing.T) {
	s := store(t)
	i := item("hi", turn(0, 0, 0))
	text := "\x00\x01a\x00\x01b\x00\x02hi" + strings.Repeat("\x00", 24)
	want := []wal.Change{{Key: "q/00000001", Value: text}, {Key: "q", Value: "1"}}
	if got, e := Add(s, i); !slices.Equal(got, want) || e != api.OK {
		t.Errorf("%+v %d", got, e)
	}
}

func TestAdd(t *testing.T) {
	for _, count := range []int{1, 2, 3, 9, 10, 11, 99, 100, 101, 400} {
		s := store(t)
		l := few(count)
		comes(t, s, 1, l...)
		tells(t, s)
		adds(t, s, l...)
		tells(t, s, numbered(1, l...)...)
		comes(t, s, count+1, l[0])
		adds(t, s, l[0], l[count-1])
		tells(t, s, append(numbered(1, l...), numbered(count+1, l[0], l[count-1])...)...)
		if q, _ := s.Get("q"); q != fmt.Sprint(count+2) {
			t.Errorf("%q", q)
		}
	}
}

// TestAddOfNothing: nothing comes, and no number is another one.
func TestAddOfNothing(t *testing.T) {
	for _, q := range []string{"", "1", "7", "99999998", "99999999"} {
		s := store(t)
		if q != "" {
			commits(t, s, has("q", q))
		}
		comes(t, s, 0)
		for _, none := range [][]Item{nil, {}, few(2)[:0]} {
			comesNot(t, s, api.OK, none...)
		}
	}
	s := store(t)
	adds(t, s)
	tells(t, s)
	if len(whole(s)) != 0 {
		t.Error(whole(s))
	}
	comes(t, s, 1, few(1)...)
}

// TestAddAsksNoId: items get the next numbers, whatever theirs were; what is handed in stays.
func TestAddAsksNoId(t *testing.T) {
	l := few(40)
	for n, id := range append(append(append([]int{5, 5, 1}, someIds...), noIds...), 3) {
		l[n].Id = id
	}
	was := slices.Clone(l)
	s := store(t)
	for n := range l {
		comes(t, s, 1, l[n])
		comes(t, s, 1, l[:n]...)
	}
	if !slices.Equal(l, was) {
		t.Error("what was handed in was changed")
	}
}

// wrongItems aren't right, each in one way, or in several.
func wrongItems() []Item {
	all := []Item{{From: x(256)}, {To: x(256)}, {Text: x(16385)}, {From: x(256), To: x(256), Text: x(16385), Turn: turn(1, 5, 0)}, {Id: 1, From: x(65536)}, {To: x(1 << 20)}, {Text: x(65536)}}
	for _, wrong := range wrongTurns() {
		all = append(all, Item{Turn: wrong}, item("text", wrong))
	}
	return all
}

// TestAddOfWrong: one among right ones, wherever it is, also where there is no room for them.
func TestAddOfWrong(t *testing.T) {
	right := few(5)
	for _, q := range []string{"", "4", "99999994", "99999999", "100000000"} {
		s := store(t, has("q", q), has("q/00000004", slowText(right[0])))
		for _, wrong := range wrongItems() {
			comesNot(t, s, api.ErrRange, wrong)
			comesNot(t, s, api.ErrRange, wrong, wrong)
			for at := range 6 {
				comesNot(t, s, api.ErrRange, slices.Insert(slices.Clone(right), at, wrong)...)
			}
		}
		tells(t, s, numbered(4, right[0])...)
	}
}

// TestAddAtTheEdges: items as long as they may be, among them the longest ones that a store takes at once.
func TestAddAtTheEdges(t *testing.T) {
	var l []Item
	for _, right := range someTurns {
		l = append(l, Item{Turn: right}, Item{From: x(255), To: x(255), Text: x(16384), Turn: right})
	}
	for _, i := range l {
		s := store(t)
		comes(t, s, 1, i)
		adds(t, s, i, i)
		tells(t, s, numbered(1, i, i)...)
	}
	comes(t, store(t), 1, l...)
}

func TestLastNumber(t *testing.T) {
	const most = 99999999
	for behind := range 12 {
		q := fmt.Sprint(most - behind)
		s := store(t, has("q", q))
		for count := range 12 {
			if count <= behind {
				comes(t, s, most-behind+1, few(count)...)
			} else {
				comesNot(t, s, api.ErrFull, few(count)...)
			}
		}
		l := few(behind)
		adds(t, s, l...)
		tells(t, s, numbered(most-behind+1, l...)...)
		comesNot(t, s, api.ErrFull, few(1)...)
		for n := range l {
			commits(t, s, Drop(most-n))
		}
		tells(t, s)
		comesNot(t, s, api.ErrFull, few(1)...)
		comes(t, s, 0)
	}
}

// TestNumbersThatLie: what q says, also what it never says of itself.
func TestNumbersThatLie(t *testing.T) {
	for q, first := range map[string]int{
		"1": 2, "9": 10, "10": 11, "99": 100, "1234567": 1234568, "9999999": 10000000, "10000000": 10000001, "90000000": 90000001,
		// Of none the numbers begin anew.
		"": 1, "0": 1, "00": 1, "007": 1, "07": 1, "-1": 1, "+5": 1, " 5": 1, "5 ": 1, "5\r\n": 1, "x": 1, "5x": 1, "1_0": 1, "0x5": 1, "5.0": 1, "1e3": 1, "/": 1, ":": 1, "5:": 1, "5/": 1, "\xff": 1, "\u0665": 1, "-99999999": 1, "100000000x": 1, "99999999999999999999x": 1, "-99999999999999999999": 1,
	} {
		comes(t, store(t, has("q", q)), first, few(3)...)
	}
	for _, q := range []string{"100000000", "100000001", "999999990", "1000000000", "4294967295", "4294967296", "4294967297", "9223372036854775806", "9223372036854775807", "9223372036854775808", "18446744073709551615", "18446744073709551616", "18446744073709551617", strings.Repeat("9", 1000), "1" + strings.Repeat("0", 64)} {
		s := store(t, has("q", q))
		// The last number would be above the last one, also where it stays.
		comesNot(t, s, api.ErrFull)
		comesNot(t, s, api.ErrFull, few(1)...)
		comesNot(t, s, api.ErrFull, few(3)...)
	}
}

// TestNumbersAreNeverUsedAgain: those of items that went, the last one among them.
func TestNumbersAreNeverUsedAgain(t *testing.T) {
	for _, gone := range [][]int{{1}, {2}, {3}, {1, 2}, {2, 3}, {3, 2}, {1, 2, 3}} {
		d, s := disk(t, 200)
		l := few(3)
		adds(t, s, l...)
		var left []Item
		for _, i := range numbered(1, l...) {
			if !slices.Contains(gone, i.Id) {
				left = append(left, i)
			}
		}
		for _, id := range gone {
			commits(t, s, Drop(id))
		}
		tells(t, s, left...)
		comes(t, s, 4, l...)
		s, e := wal.Open(d, 0, 200)
		if e != api.OK {
			t.Fatal(e)
		}
		tells(t, s, left...)
		comes(t, s, 4, l...)
		adds(t, s, l[0])
		commits(t, s, Drop(4))
		tells(t, s, left...)
		comes(t, s, 5, l[0])
	}
}

// TestBothOrNeither: changes of several kinds may be committed at once.
func TestBothOrNeither(t *testing.T) {
	s := store(t)
	l := few(3)
	adds(t, s, l...)
	changes, _ := Add(s, l[2])
	commits(t, s, append(changes, Drop(1), Drop(3))...)
	tells(t, s, append(numbered(2, l[1]), numbered(4, l[2])...)...)
}

// others are keys beside a queue's, of values that would be items' texts.
func others() []wal.Change {
	text := slowText(item("no item", turn(0, 0, 0)))
	var l []wal.Change
	for _, key := range []string{
		"", "\x00", "0", "00000001", "/", "/00000001", "Q/00000001", "Q", "m/ann/p0.1", "p", "pq/00000001", "p/00000001", "q\x00", "q ", "q.", "q.00000001", "q0", "q00000001", "q0/00000001", "qq/00000001", "r", "r/00000001", "s/ann/p0.1", "\xff",
		"q/", "q//", "q/0", "q/1", "q/01", "q/0000001", "q/000000001", "q/100000000", "q/100000001", "q/0000000000000001", "q/00000000", "q/-1", "q/-0000001", "q/000000-1", "q/+0000001", "q/+1", "q/0x000001", "q/0_000001", "q/ 0000001", "q/0000001 ", "q/00000001 ", "q/00000001/", "q/00000001\x00", "q/00000001x", "q/x0000001", "q/0000000x", "q/xxxxxxxx", "q/1e000000", "q/0000001.", "q/\xff\xff\xff\xff\xff\xff\xff\xff", "q/q/00000001", "q/4294967297", "q/9223372036854775807", "q/9223372036854775808", "q/18446744073709551617", "q/-9223372036854775808",
	} {
		l = append(l, has(key, text))
	}
	return l
}

// TestOtherKeys of the store are no items.
func TestOtherKeys(t *testing.T) {
	for _, o := range others() {
		s := store(t, o)
		tells(t, s)
		if i, ok := Ready(s, last); ok || i != (Item{}) {
			t.Errorf("%q: %s", o.Key, brief(i))
		}
		comes(t, s, 1, few(2)...)
	}
	s := store(t, others()...)
	tells(t, s)
	asksNone(t, s)
	l := few(12)
	adds(t, s, l...)
	tells(t, s, numbered(1, l...)...)
	asksNone(t, s)
	if i, ok := Ready(s, 5); !ok || i != numbered(1, l[0])[0] {
		t.Error(brief(i))
	}
	for id := 1; id <= 12; id++ {
		commits(t, s, Drop(id))
	}
	commits(t, s, wal.Change{Key: "q", Gone: true})
	if got, want := whole(s), whole(store(t, others()...)); !maps.Equal(got, want) {
		t.Error("other keys were changed")
	}
}

// asksNone asks for numbers that no item has.
func asksNone(t *testing.T, s *wal.Store) {
	t.Helper()
	before := whole(s)
	for _, id := range append([]int{100000000, 100000001, 1<<32 + 1, 4294967297, math.MaxInt - 1, math.MaxInt, 99999999, 99999998, 13}, noIds...) {
		if i, ok := Get(s, id); ok || i != (Item{}) {
			t.Errorf("Get(%d): %s", id, brief(i))
		}
		for _, now := range []int{0, 5, last, -1, last + 1, math.MinInt, math.MaxInt} {
			if c, over, e := Failed(s, id, now); c != (wal.Change{}) || over || e != api.ErrNone {
				t.Errorf("Failed(%d, %d): %+v %v %d", id, now, c, over, e)
			}
		}
	}
	if !maps.Equal(before, whole(s)) {
		t.Error("Get or Failed changed the store")
	}
}

// TestNoTexts: under an item's key, what isn't a text of one.
func TestNoTexts(t *testing.T) {
	right := item("text", turn(1, 2, 3))
	text := slowText(right)
	values := []string{"", "x", "1", text[:len(text)-1], text[1:], text + "x", text + "\x00", "\x00\x05a", text[:len(text)-9] + "\x05" + text[len(text)-8:], x(29), x(30)}
	for _, wrong := range wrongItems() {
		values = append(values, slowText(wrong))
	}
	for _, value := range values {
		if len(value) > 65535 {
			continue
		}
		s := store(t, has("q/00000007", text), has("q/00000008", value), has("q/00000013", value), has("q/00000009", text), has("q", "9"))
		tells(t, s, append(numbered(7, right), numbered(9, right)...)...)
		asksNone(t, s)
		if i, ok := Get(s, 8); ok || i != (Item{}) {
			t.Error(brief(i))
		}
		if c, over, e := Failed(s, 8, 3); c != (wal.Change{}) || over || e != api.ErrNone {
			t.Errorf("%+v %v %d", c, over, e)
		}
		commits(t, s, Drop(7))
		if i, ok := Ready(s, 3); !ok || i.Id != 9 {
			t.Error(brief(i))
		}
		// It goes as others do.
		commits(t, s, Drop(8), Drop(9), Drop(13))
		if len(s.Keys("q/")) != 0 {
			t.Error(s.Keys("q/"))
		}
	}
}

func TestEmptyStore(t *testing.T) {
	s := store(t)
	tells(t, s)
	asksNone(t, s)
	for id := 1; id < 10; id++ {
		if i, ok := Get(s, id); ok || i != (Item{}) {
			t.Error(brief(i))
		}
	}
	for _, now := range []int{0, 1, last, -1, last + 1, math.MaxInt, math.MinInt} {
		if i, ok := Ready(s, now); ok || i != (Item{}) {
			t.Error(brief(i))
		}
	}
}

// TestList: by rising numbers, whichever came first, from the first one to the last.
func TestList(t *testing.T) {
	ids := []int{1, 2, 9, 10, 11, 99, 100, 101, 1000, 9999999, 10000000, 12345678, 99999998, 99999999}
	var l, want []Item
	for n, id := range ids {
		i := few(len(ids))[n]
		i.Id = id
		want = append(want, i)
		l = append([]Item{i}, l...)
	}
	s := store(t)
	for n, i := range l {
		commits(t, s, has(fmt.Sprintf("q/%08d", i.Id), slowText(i)))
		tells(t, s, want[len(want)-1-n:]...)
	}
	for n := range want {
		commits(t, s, Drop(want[n].Id))
		tells(t, s, want[n+1:]...)
	}
}

// TestListsAreApart: what is done with an answer changes no other one, and not the queue.
func TestListsAreApart(t *testing.T) {
	s := store(t)
	l := few(6)
	adds(t, s, l...)
	one, two := List(s), List(s)
	_ = append(one[:1], make([]Item, cap(one)-1)...)
	changes, _ := Add(s, l...)
	again, _ := Add(s, l...)
	_ = append(changes[:1], make([]wal.Change, cap(changes)-1)...)
	clear(l)
	want := numbered(1, few(6)...)
	if !slices.Equal(two, want) {
		t.Error("two lists share their items")
	}
	if last := again[len(again)-1]; last != has("q", "12") || again[1].Value != slowText(want[1]) {
		t.Error("two lists share their changes")
	}
	tells(t, s, want...)
}

func TestDrop(t *testing.T) {
	for id, key := range map[int]string{1: "q/00000001", 2: "q/00000002", 9: "q/00000009", 10: "q/00000010", 12345: "q/00012345", 1234567: "q/01234567", 10000000: "q/10000000", 12345678: "q/12345678", 99999999: "q/99999999"} {
		if c := Drop(id); c != (wal.Change{Key: key, Gone: true}) {
			t.Errorf("%+v", c)
		}
	}
	// Of numbers that no item has: nothing comes by it, and none goes.
	s := store(t)
	l := few(30)
	adds(t, s, l...)
	before := whole(s)
	for _, id := range append([]int{31, 99999999, 100000000, 100000001, 200000001, 1<<32 + 1, 1<<62 + 1, math.MaxInt - 1, math.MaxInt}, noIds...) {
		c := Drop(id)
		if !c.Gone || c.Value != "" || c.Key == "q" {
			t.Errorf("%+v", c)
		}
		commits(t, s, c)
		if !maps.Equal(before, whole(s)) {
			t.Fatalf("Drop(%d): %+v", id, c)
		}
	}
	tells(t, s, numbered(1, l...)...)
}

func TestReady(t *testing.T) {
	for _, right := range someTurns {
		s := store(t)
		adds(t, s, item("text", right))
		for _, now := range []int{math.MinInt, -1, 0, 1, right.Due - 2, right.Due - 1, right.Due, right.Due + 1, right.Due + 41, last - 1, last, last + 1, math.MaxInt} {
			want := numbered(1, item("text", right))[0]
			if now < right.Due {
				want = Item{}
			}
			if i, ok := Ready(s, now); i != want || ok != (now >= right.Due) || ok != retry.Ready(right, now) {
				t.Errorf("%v at %d: %s %v", right, now, brief(i), ok)
			}
		}
	}
}

// TestReadyOfSeveral: the one of the least number, not the one that is due first.
func TestReadyOfSeveral(t *testing.T) {
	dues := []int{9, 4, 7, 4, 1, 30}
	firsts := map[int]int{0: 0, 1: 5, 3: 5, 4: 2, 6: 2, 8: 2, 9: 1, 29: 1, 30: 1, last: 1}
	s := store(t)
	for n, due := range dues {
		adds(t, s, item(fmt.Sprint(n), turn(0, n%5, due)))
	}
	for now, id := range firsts {
		before := whole(s)
		i, ok := Ready(s, now)
		if i.Id != id || ok != (id > 0) || ok && i != List(s)[id-1] || !ok && i != (Item{}) {
			t.Errorf("at %d: %s %v", now, brief(i), ok)
		}
		if !maps.Equal(before, whole(s)) {
			t.Error("Ready changed the store")
		}
	}
	for _, id := range []int{1, 2, 3, 4, 5, 6} {
		if i, ok := Ready(s, 30); !ok || i.Id != id {
			t.Errorf("%s, not %d", brief(i), id)
		}
		commits(t, s, Drop(id))
	}
	if i, ok := Ready(s, 30); ok {
		t.Error(brief(i))
	}
}
