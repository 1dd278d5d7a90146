package base64

import (
	"sync"
	"sync/atomic"

	"mailguard/api"
)

// Coder: that counts.
type Coder struct {
	made   sync.Once
	worths table
	told   atomic.Int64
}

// New: one.
func New() *Coder { return &Coder{} }

// Decode: letters.
func (c *Coder) Decode(s string) (string, api.Errno) {
	c.made.Do(c.worths.build)
	text, e := c.worths.decode(s)
	c.told.Add(int64(len(text)))
	return text, e
}

// Count: how many bytes were told.
func (c *Coder) Count() int { return int(c.told.Load()) }
