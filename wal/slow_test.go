package wal

import (
	"crypto/sha256"
	"encoding/binary"
	"maps"
	"math"
	"slices"
	"strings"

	"mailguard/api"
)

// What stands here is a store made in another way: one that keeps nothing, but works out from the disk's bytes, each time, what the disk tells, and which writes a commit has.

// deed: a write.
type deed struct {
	at   int
	data string
}

func slowText(l []Change) string {
	var text []byte
	for _, c := range l {
		if c.Gone {
			text = append(text, 1)
			c.Value = ""
		} else {
			text = append(text, 0)
		}
		text = binary.BigEndian.AppendUint16(text, uint16(len(c.Key)))
		text = binary.BigEndian.AppendUint16(text, uint16(len(c.Value)))
		text = append(text, c.Key+c.Value...)
	}
	return string(text)
}

// slowRecord: the sectors of a record, each filled up.
func slowRecord(generation, number uint32, text string) []string {
	bytes := []byte("MG")
	for _, n := range []uint32{generation, number, uint32(len(text))} {
		bytes = binary.BigEndian.AppendUint32(bytes, n)
	}
	bytes = append(bytes, text...)
	sum := sha256.Sum256(bytes)
	bytes = append(bytes, sum[:]...)
	for len(bytes) < 63 || (len(bytes)-63)%64 != 0 {
		bytes = append(bytes, 0)
	}
	sectors := []string{string(bytes[:63]) + "M"}
	for bytes = bytes[63:]; len(bytes) > 0; bytes = bytes[64:] {
		sectors = append(sectors, string(bytes[:64]))
	}
	return sectors
}

// slowLay: the writes by which a record is laid, in a half that ends there.
func slowLay(at, end int, record []string) []deed {
	var l []deed
	if at+len(record) < end {
		l = append(l, deed{at + len(record), ""})
	}
	for i := len(record) - 1; i >= 0; i-- {
		l = append(l, deed{at + i, record[i]})
	}
	return l
}

// slowMake: the writes of a Make.
func slowMake(from, count int) []deed {
	half := count / 2
	return append([]deed{{from + half, ""}, {from, ""}}, slowLay(from, from+half, slowRecord(1, 0, ""))...)
}

// known: what a disk tells: of the half that is used where it begins, where it ends, and where its records do; the other one's beginning.
type known struct {
	begin, end, at, other int
	generation, number    uint32
	values                map[string]string
}

// slowWhole reads a record from sectors, and how many it has.
func slowWhole(sectors []string) (generation, number uint32, text string, count int) {
	all := strings.Join(sectors, "")
	if len(all) < 64 || all[63] != 'M' {
		return 0, 0, "", 0
	}
	all = all[:63] + all[64:]
	told := func(at int) uint32 { return binary.BigEndian.Uint32([]byte(all[at:])) }
	size := 14 + int64(told(10))
	if all[:2] != "MG" || size+32 > int64(len(all)) {
		return 0, 0, "", 0
	}
	if sum := sha256.Sum256([]byte(all[:size])); string(sum[:]) != all[size:size+32] {
		return 0, 0, "", 0
	}
	return told(2), told(6), all[14:size], len(slowRecord(0, 0, all[14:size]))
}

// slowChange does what a text of changes says; false, if it is none.
func slowChange(values map[string]string, text string) bool {
	for text != "" {
		if len(text) < 5 || text[0] > 1 {
			return false
		}
		key := 5 + int(binary.BigEndian.Uint16([]byte(text[1:])))
		value := key + int(binary.BigEndian.Uint16([]byte(text[3:])))
		if value > len(text) || text[0] == 1 && value != key {
			return false
		}
		if text[0] == 1 {
			delete(values, text[5:key])
		} else {
			values[text[5:key]] = text[key:value]
		}
		text = text[value:]
	}
	return true
}

// heard: what a disk tells; false, if it tells nothing.
func heard(sectors []string, from, count int) (known, bool) {
	half := count / 2
	var best known
	ok, right := false, true
	for _, begin := range []int{from, from + half} {
		k := known{begin: begin, end: begin + half, at: begin, other: 2*from + half - begin, values: map[string]string{}}
		isRight := true
		for k.at < k.end {
			generation, number, text, size := slowWhole(sectors[k.at:k.end])
			if size == 0 || number != k.number || number > 0 && generation != k.generation {
				break
			}
			isRight = isRight && slowChange(k.values, text)
			k.generation, k.number, k.at = generation, number+1, k.at+size
		}
		if k.number > 0 && (!ok || k.generation > best.generation) {
			best, ok, right = k, true, isRight
		}
	}
	return best, ok && right
}

// deeds: the writes by which changes are committed.
func (k known) deeds(l []Change) ([]deed, api.Errno) {
	for _, c := range l {
		if len(c.Key) > 65535 || len(c.Value) > 65535 {
			return nil, api.ErrLong
		}
	}
	if len(l) == 0 {
		return nil, api.OK
	}
	if record := slowRecord(k.generation, k.number, slowText(l)); k.at+len(record) <= k.end {
		return slowLay(k.at, k.end, record), api.OK
	}
	values := maps.Clone(k.values)
	slowChange(values, slowText(l))
	var first []Change
	for _, key := range slices.Sorted(maps.Keys(values)) {
		first = append(first, Change{Key: key, Value: values[key]})
	}
	record := slowRecord(k.generation+1, 0, slowText(first))
	if half := k.end - k.begin; len(record) > half || k.generation == math.MaxUint32 {
		return nil, api.ErrFull
	}
	return append([]deed{{k.other, ""}}, slowLay(k.other, k.other+k.end-k.begin, record)...), api.OK
}

// filled tells a sector in which that was written whole.
func filled(s string) string { return s + strings.Repeat("\x00", 64-len(s)) }

// done does writes up to a cut: what is on the sectors then, how many there were, and whether the power failed.
func done(sectors []string, l []deed, c api.Cut) ([]string, int, bool) {
	sectors = slices.Clone(sectors)
	for i, d := range l {
		if i+1 == c.At {
			there := min(max(c.Torn, 0), 64)
			sectors[d.at] = filled(d.data)[:there] + sectors[d.at][there:]
			return sectors, c.At, true
		}
		sectors[d.at] = filled(d.data)
	}
	return sectors, len(l), false
}
