// Package inkwell: one text, written by several hands at once: see DOC.md.
package inkwell

import (
	"sync"

	"inkwell/api"
	"inkwell/state"
)

// Copy is a copy of the text.
type Copy struct {
	mutex sync.Mutex // taken in the exported methods alone, so that none waits for itself
	state *state.State
}

// New begins with the empty text (P3).
func New(c api.Config) (*Copy, api.Errno) {
	s, e := state.New(c)
	if e != api.OK {
		return nil, e
	}
	return &Copy{state: s}, api.OK
}

// Insert puts a rune at a place (P4).
func (c *Copy) Insert(place int, r rune) api.Errno {
	c.mutex.Lock()
	defer c.mutex.Unlock()
	return c.state.Insert(place, r)
}

// Delete takes the rune at a place away (P5).
func (c *Copy) Delete(place int) api.Errno {
	c.mutex.Lock()
	defer c.mutex.Unlock()
	return c.state.Delete(place)
}

// Text gives the text (P6).
func (c *Copy) Text() string {
	c.mutex.Lock()
	defer c.mutex.Unlock()
	return c.state.Text()
}

// Len is how many runes the text has (P6).
func (c *Copy) Len() int {
	c.mutex.Lock()
	defer c.mutex.Unlock()
	return c.state.Len()
}

// Clock gives the clock (P6).
func (c *Copy) Clock() []int {
	c.mutex.Lock()
	defer c.mutex.Unlock()
	return c.state.Clock()
}

// Pending is how many operations wait (P6).
func (c *Copy) Pending() int {
	c.mutex.Lock()
	defer c.mutex.Unlock()
	return c.state.Pending()
}

// Tick gives the copy's digest (P9).
func (c *Copy) Tick() string {
	c.mutex.Lock()
	defer c.mutex.Unlock()
	return c.state.Tick()
}

// Handle takes a datagram, and gives those that answer it (P10).
func (c *Copy) Handle(datagram string) ([]string, api.Errno) {
	c.mutex.Lock()
	defer c.mutex.Unlock()
	return c.state.Handle(datagram)
}
