package wal

import (
	"math/bits"
	"strings"
)

const (
	// block: how many bytes a digest takes at once; it goes over them in so many rounds.
	block  = 64
	rounds = 64
)

// digest: the constants of SHA-256: of roots of the first primes the first 32 bits behind the point.
type digest struct {
	// start: of square roots; added: of cube roots, one in each round.
	start [8]uint32
	added [rounds]uint32
}

// Sum: of a text.
func (s *Store) Sum(text string) string {
	s.laid.Do(s.digest.build)
	return s.digest.sum(text)
}

func (k *digest) build() {
	at := 0
	for n := uint64(2); at < len(k.added); n++ {
		if !prime(n) {
			continue
		}
		if at < len(k.start) {
			k.start[at] = fraction(func(r uint64) bool { return squareBelow(r, n) })
		}
		k.added[at] = fraction(func(r uint64) bool { return cubeBelow(r, n) })
		at++
	}
}

func prime(n uint64) bool {
	for by := uint64(2); by*by <= n; by++ {
		if n%by == 0 {
			return false
		}
	}
	return true
}

// fraction answers the first 32 bits behind the point of a root, which is less than 8; below tells whether r is less than 2^32 times that root.
func fraction(below func(r uint64) bool) uint32 {
	r := uint64(0)
	for bit := uint64(4) << 32; bit > 0; bit >>= 1 {
		if below(r | bit) {
			r |= bit
		}
	}
	return uint32(r)
}

// squareBelow tells whether r's square is less than n times 2^64.
func squareBelow(r, n uint64) bool {
	high, _ := bits.Mul64(r, r)
	return high < n
}

// cubeBelow tells whether r's cube is less than n times 2^96.
func cubeBelow(r, n uint64) bool {
	high, low := bits.Mul64(r, r)
	carried, _ := bits.Mul64(low, r)
	return high*r+carried < n<<32
}

func (k *digest) sum(text string) string {
	state := k.start
	whole := len(text) / block * block
	for _, part := range []string{text[:whole], text[whole:] + ending(len(text))} {
		for at := 0; at < len(part); at += block {
			k.mix(&state, part[at:at+block])
		}
	}
	var told []byte
	for _, word := range state {
		told = appendNumber(told, uint64(word), 4)
	}
	return string(told)
}

// ending answers what fills a text of so many bytes up to whole blocks.
func ending(size int) string {
	const count = 8
	// One byte marks where the text ends, and 8 tell how many bits it has.
	fill := block - 1 - (size+count)%block
	return "\x80" + strings.Repeat("\x00", fill) + string(appendNumber(nil, uint64(size)*8, count))
}

// mix takes a block into a digest's state.
func (k *digest) mix(state *[8]uint32, bytes string) {
	a, b, c, d, e, f, g, h := state[0], state[1], state[2], state[3], state[4], state[5], state[6], state[7]
	for i, word := range spread(bytes) {
		first := h + (turned(e, 6) ^ turned(e, 11) ^ turned(e, 25)) + (e&f ^ ^e&g) + word + k.added[i]
		second := (turned(a, 2) ^ turned(a, 13) ^ turned(a, 22)) + (a&b ^ a&c ^ b&c)
		a, b, c, d, e, f, g, h = first+second, a, b, c, d+first, e, f, g
	}
	for i, word := range [8]uint32{a, b, c, d, e, f, g, h} {
		state[i] += word
	}
}

// spread makes the words of all rounds of those that a block is.
func spread(bytes string) [rounds]uint32 {
	var w [rounds]uint32
	for i := range 16 {
		w[i] = number(bytes[4*i : 4*i+4])
	}
	for i := 16; i < len(w); i++ {
		low := turned(w[i-15], 7) ^ turned(w[i-15], 18) ^ w[i-15]>>3
		high := turned(w[i-2], 17) ^ turned(w[i-2], 19) ^ w[i-2]>>10
		w[i] = w[i-16] + low + w[i-7] + high
	}
	return w
}

func turned(word uint32, right int) uint32 { return bits.RotateLeft32(word, -right) }
