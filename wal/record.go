package wal

import (
	"slices"
	"strings"

	"mailguard/api"
)

const (
	magic = "MG"
	// mark: the last byte of a record's first sector, which is written last.
	mark      = "M"
	firstSize = api.SectorSize - len(mark)
	// headSize: of the magic and three numbers.
	headSize = len(magic) + 3*4
	sumSize  = 32
)

// place: of a record: at a sector of a half; and what it tells of itself.
type place struct {
	half, at           int
	generation, number uint32
}

// room tells how many sectors a record of a text of so many bytes has.
func room(size int) int {
	bytes := headSize + size + sumSize + len(mark)
	return (bytes + api.SectorSize - 1) / api.SectorSize
}

// behind answers the place of the record that stands behind one of a text of so many bytes.
func (p place) behind(size int) place {
	return place{half: p.half, at: p.at + room(size), generation: p.generation, number: p.number + 1}
}

// record answers the sectors of a record; the last one isn't filled up.
func (s *Store) record(p place, text string) []string {
	head := []byte(magic)
	for _, n := range []uint32{p.generation, p.number, uint32(len(text))} {
		head = appendNumber(head, uint64(n), 4)
	}
	bytes := string(head) + text
	bytes += s.Sum(bytes)
	first := min(len(bytes), firstSize)
	all := bytes[:first] + strings.Repeat("\x00", firstSize-first) + mark + bytes[first:]
	var sectors []string
	for at := 0; at < len(all); at += api.SectorSize {
		sectors = append(sectors, all[at:min(at+api.SectorSize, len(all))])
	}
	return sectors
}

// lay lays a record at its place, where it goes.
func (s *Store) lay(p place, text string) api.Errno {
	next := p.behind(len(text))
	if next.at < s.size {
		if e := s.write(p.half, next.at, ""); e != api.OK {
			return e
		}
	}
	for i, data := range slices.Backward(s.record(p, text)) {
		if e := s.write(p.half, p.at+i, data); e != api.OK {
			return e
		}
	}
	s.next = next
	return api.OK
}

// whole reads a record from the beginning of sectors, if it is whole; where it lies, the caller knows.
func (s *Store) whole(sectors string) (place, string, bool) {
	if !strings.HasPrefix(sectors, magic) || sectors[firstSize:api.SectorSize] != mark {
		return place{}, "", false
	}
	told := func(at int) uint32 { return number(sectors[len(magic)+4*at:][:4]) }
	// A length of more bytes than there are could be too large to be reckoned with.
	if told(2) > uint32(len(sectors)) {
		return place{}, "", false
	}
	length := int(told(2))
	end := room(length) * api.SectorSize
	if end > len(sectors) {
		return place{}, "", false
	}
	bytes := sectors[:firstSize] + sectors[api.SectorSize:end]
	signed := headSize + length
	if s.Sum(bytes[:signed]) != bytes[signed:signed+sumSize] {
		return place{}, "", false
	}
	return place{generation: told(0), number: told(1)}, bytes[headSize:signed], true
}

// hear reads the records of a half that are taken, should it be the one that is used: their texts, and where the next one is laid.
func (s *Store) hear(half int) ([]string, place, api.Errno) {
	sectors, e := s.read(half)
	if e != api.OK {
		return nil, place{}, e
	}
	var texts []string
	next := place{half: half}
	for {
		p, text, ok := s.whole(sectors[next.at*api.SectorSize:])
		if !ok || p.number != next.number || len(texts) > 0 && p.generation != next.generation {
			return texts, next, api.OK
		}
		texts = append(texts, text)
		p.half, p.at = half, next.at
		next = p.behind(len(text))
	}
}

// read reads a half's sectors.
func (s *Store) read(half int) (string, api.Errno) {
	var all strings.Builder
	all.Grow(s.size * api.SectorSize)
	for at := range s.size {
		text, e := s.disk.Read(s.from + half*s.size + at)
		if e != api.OK {
			return "", e
		}
		all.WriteString(text)
	}
	return all.String(), api.OK
}

// write writes a half's sector. Once the power failed, what the store knows isn't what the disk tells, so that it writes no more.
func (s *Store) write(half, at int, data string) api.Errno {
	if s.lost {
		return api.ErrDown
	}
	return s.disk.Write(s.from+half*s.size+at, data)
}
