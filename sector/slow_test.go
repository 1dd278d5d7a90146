package sector

import (
	"slices"
	"testing"

	"mailguard/api"
)

// slow is a disk made in another way: of texts, and of a count that goes down to the cut.
type slow struct {
	sectors   []string
	left      int
	armed     api.Cut
	off       bool
	allWrites int
}

func (d *slow) write(at int, data string) api.Errno {
	switch {
	case d.off:
		return api.ErrDown
	case at < 0 || at >= len(d.sectors):
		return api.ErrRange
	case len(data) > 64:
		return api.ErrLong
	}
	d.allWrites++
	if d.armed.At > 0 {
		d.left--
	}
	if d.armed.At > 0 && d.left == 0 {
		there := d.armed.Torn
		if there < 0 {
			there = 0
		}
		if there > 64 {
			there = 64
		}
		d.sectors[at] = filled(data)[:there] + d.sectors[at][there:]
		d.armed, d.off = api.Cut{}, true
		return api.ErrDown
	}
	d.sectors[at] = filled(data)
	return api.OK
}

func (d *slow) arm(c api.Cut) { d.armed, d.left = c, c.At }

func (d *slow) start() { d.off, d.left = false, d.armed.At }

func (d *slow) copied() *slow {
	c := *d
	c.sectors = slices.Clone(d.sectors)
	return &c
}

// pair: a disk and a slow one that were told the same; and, if a copy was made, the disk that it was made of.
type pair struct {
	disk, of         *Disk
	slowDisk, slowOf *slow
}

// deeds: what may be done to a pair, each told by its errors' being held against each other.
func deeds() []func(p *pair) bool {
	write := func(at int, data string) func(p *pair) bool {
		return func(p *pair) bool { return p.disk.Write(at, data) == p.slowDisk.write(at, data) }
	}
	arm := func(c api.Cut) func(p *pair) bool {
		return func(p *pair) bool {
			p.disk.Arm(c)
			p.slowDisk.arm(c)
			return true
		}
	}
	start := func(p *pair) bool {
		p.disk.Start()
		p.slowDisk.start()
		return true
	}
	// Of a disk and its copy, one is told on, the other is to stay.
	onWithCopy := func(p *pair) bool {
		p.disk, p.of = p.disk.Copy(), p.disk
		p.slowDisk, p.slowOf = p.slowDisk.copied(), p.slowDisk
		return true
	}
	onWithDisk := func(p *pair) bool {
		p.of = p.disk.Copy()
		p.slowOf = p.slowDisk.copied()
		return true
	}
	return []func(p *pair) bool{
		write(0, "some bytes"), write(1, x(64)), write(0, ""), write(2, x(65)), write(1, x(65)),
		arm(api.Cut{At: 1, Torn: 3}), arm(api.Cut{At: 2, Torn: 70}), arm(api.Cut{At: 0, Torn: 5}),
		start, onWithCopy, onWithDisk,
	}
}

// like: does a disk tell what a slow one says?
func like(d *Disk, s *slow) bool {
	if d.Down() != s.off || d.Writes() != s.allWrites || d.Size() != len(s.sectors) {
		return false
	}
	for at := -1; at <= len(s.sectors); at++ {
		var want string
		wrong := api.OK
		switch {
		case s.off:
			wrong = api.ErrDown
		case at < 0 || at == len(s.sectors):
			wrong = api.ErrRange
		default:
			want = s.sectors[at]
		}
		if text, e := d.Read(at); text != want || e != wrong {
			return false
		}
	}
	return true
}

// lies tells whether what is on the sectors is the same, whether the power is on or off.
func lies(d *Disk, s *slow) bool {
	c, on := d.Copy(), s.copied()
	c.Start()
	on.start()
	return like(c, on)
}

func (p *pair) right() bool {
	if p.of != nil && !(like(p.of, p.slowOf) && lies(p.of, p.slowOf)) {
		return false
	}
	return like(p.disk, p.slowDisk) && lies(p.disk, p.slowDisk)
}

// apart answers a pair of which this one knows nothing.
func (p *pair) apart() *pair {
	c := &pair{disk: p.disk.Copy(), slowDisk: p.slowDisk.copied()}
	if p.of != nil {
		c.of, c.slowOf = p.of.Copy(), p.slowOf.copied()
	}
	return c
}

// TestAllShortTales does all that may be done to a disk, in each order.
func TestAllShortTales(t *testing.T) {
	all := deeds()
	var tell func(p *pair, tale []int)
	tell = func(p *pair, tale []int) {
		for i, deed := range all {
			if t.Failed() {
				return
			}
			c := p.apart()
			now := append(slices.Clone(tale), i)
			if !deed(c) || !c.right() {
				t.Error(now)
			}
			if len(now) < 5 {
				tell(c, now)
			}
		}
	}
	tell(&pair{disk: made(t, 2), slowDisk: &slow{sectors: []string{filled(""), filled("")}}}, nil)
}

// TestLongTales does the same deeds again and again, without a copy between, in orders from a short rule.
func TestLongTales(t *testing.T) {
	all := deeds()
	for first := range uint32(200) {
		p := &pair{disk: made(t, 2), slowDisk: &slow{sectors: []string{filled(""), filled("")}}}
		number := first
		for i := range 200 {
			number = number*1664525 + 1013904223
			deed := all[int(number>>16)%len(all)]
			if !deed(p) || !p.right() {
				t.Error(first, i)
				return
			}
		}
	}
}
