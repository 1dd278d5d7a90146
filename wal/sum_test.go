package wal

import (
	"crypto/sha256"
	"encoding/hex"
	"strings"
	"sync"
	"testing"
)

func TestSumAsItIsKnown(t *testing.T) {
	s := makes(t, disk(t, 4), 0, 4)
	for text, want := range map[string]string{
		"":    "e3b0c44298fc1c149afbf4c8996fb92427ae41e4649b934ca495991b7852b855",
		"abc": "ba7816bf8f01cfea414140de5dae2223b00361a396177a9cb410ff61f20015ad",
		"abcdbcdecdefdefgefghfghighijhijkijkljklmklmnlmnomnopnopq": "248d6a61d20638b8e5c026930c3e6039a33ce45964ff2167f6ecedd419db06c1",
		strings.Repeat("a", 1000000):                               "cdc76e5c9914fb9281a1c7e284d73e67f1809a48a497200e046d39ccc7112cd0",
	} {
		if got := hex.EncodeToString([]byte(s.Sum(text))); got != want {
			t.Errorf("Sum(%.60q): %s, not %s", text, got, want)
		}
	}
}

// TestSumOfEachLength: those about the ends of blocks among them.
func TestSumOfEachLength(t *testing.T) {
	s := makes(t, disk(t, 4), 0, 4)
	bytes := make([]byte, 400)
	number := uint32(1)
	for i := range bytes {
		number = number*1664525 + 1013904223
		bytes[i] = byte(number >> 24)
	}
	for size := range len(bytes) {
		for _, text := range []string{string(bytes[:size]), x(size), strings.Repeat("\x00", size), strings.Repeat("\xff", size)} {
			want := sha256.Sum256([]byte(text))
			if got := s.Sum(text); got != string(want[:]) {
				t.Errorf("%d bytes: %x, not %x", size, got, want)
			}
		}
	}
}

func TestSumOfLongTexts(t *testing.T) {
	s := makes(t, disk(t, 4), 0, 4)
	for _, size := range []int{4096, 65535, 65536, 1<<20 + 55, 1<<20 + 56} {
		text := strings.Repeat("\x00\x01\xfe", size)[:size]
		want := sha256.Sum256([]byte(text))
		if got := s.Sum(text); got != string(want[:]) {
			t.Errorf("%d bytes: %x, not %x", size, got, want)
		}
	}
}

// TestSumOfEachStore: of one that was opened, and of one whose power failed.
func TestSumOfEachStore(t *testing.T) {
	d := disk(t, 4)
	made := makes(t, d, 0, 4)
	opened := opens(t, d, 0, 4)
	down(t, d)
	made.Commit(put("a", "1"))
	want := sha256.Sum256([]byte("text"))
	for i, s := range []*Store{made, opened, made} {
		if got := s.Sum("text"); got != string(want[:]) {
			t.Errorf("%d: %x", i, got)
		}
	}
}

// TestSumAskedAtOnce: the constants are laid out once, whoever asks first.
func TestSumAskedAtOnce(t *testing.T) {
	s := &Store{}
	var all sync.WaitGroup
	sums := make([]string, 16)
	for i := range sums {
		all.Go(func() { sums[i] = s.Sum("text") })
	}
	all.Wait()
	want := sha256.Sum256([]byte("text"))
	for i, got := range sums {
		if got != string(want[:]) {
			t.Errorf("%d: %x", i, got)
		}
	}
}
