// Package state: what a copy knows, and how operations change it. It takes no lock: the face does.
package state

import (
	"unicode/utf8"

	"inkwell/api"
	"inkwell/frame"
	"inkwell/line"
	"inkwell/op"
)

// State is a copy's state.
type State struct {
	copies, self int
	clock        op.Clock
	greatest     int64 // counter that was seen
	applied      map[op.Name]op.Operation
	pending      map[op.Name]op.Operation
	line         *line.Line
}

// New gives the state of a copy to which nothing was applied (P3).
func New(c api.Config) (*State, api.Errno) {
	if c.Copies < 1 || c.Copies > api.MaxCopies {
		return nil, api.ErrCopies
	}
	if c.Self < 1 || c.Self > c.Copies {
		return nil, api.ErrSelf
	}
	return &State{
		copies:  c.Copies,
		self:    c.Self,
		applied: map[op.Name]op.Operation{},
		pending: map[op.Name]op.Operation{},
		line:    line.New(),
	}, api.OK
}

// Insert writes a rune at a place (P4).
func (s *State) Insert(place int, r rune) api.Errno {
	switch {
	case place < 0 || place > s.line.Len():
		return api.ErrPlace
	case !utf8.ValidRune(r):
		return api.ErrRune
	case s.full():
		return api.ErrFull
	}
	target := op.Beginning()
	if place > 0 {
		target = s.line.MarkAt(place - 1)
	}
	s.write(op.Insert, target, r)
	return api.OK
}

// Delete takes away the rune at a place (P5).
func (s *State) Delete(place int) api.Errno {
	switch {
	case place < 0 || place >= s.line.Len():
		return api.ErrPlace
	case s.full():
		return api.ErrFull
	}
	s.write(op.Delete, s.line.MarkAt(place), 0)
	return api.OK
}

// Text is the text (P6).
func (s *State) Text() string { return s.line.Text() }

// Len is how many runes the text has (P6).
func (s *State) Len() int { return s.line.Len() }

// Clock is the clock of the copies that there are, in a list of the caller's own (P6).
func (s *State) Clock() []int {
	list := make([]int, s.copies)
	copy(list, s.clock[:])
	return list
}

// Pending is how many operations wait (P6).
func (s *State) Pending() int { return len(s.pending) }

// Tick is the copy's digest (P9).
func (s *State) Tick() string { return frame.WriteDigest(s.copies, s.self, s.clock) }

// Handle takes a datagram, and gives those that answer it (P10).
func (s *State) Handle(datagram string) ([]string, api.Errno) {
	f, is := frame.Read(s.copies, datagram)
	if !is {
		return nil, api.ErrFrame
	}
	switch f.Content {
	case frame.Digest:
		return frame.WriteBatches(s.copies, s.beyond(f.Clock)), api.OK
	case frame.Batch:
		for _, o := range f.Operations {
			s.take(o)
		}
	}
	return nil, api.OK
}

// beyond gives the operations applied here that a clock does not count, the copies in order, of each by number.
func (s *State) beyond(clock op.Clock) []op.Operation {
	var list []op.Operation
	for origin := 1; origin <= s.copies; origin++ {
		for number := clock.Of(origin) + 1; number <= s.clock.Of(origin); number++ {
			list = append(list, s.applied[op.Name{Origin: origin, Number: number}])
		}
	}
	return list
}

// full tells whether the copy can make no operation more: it has no number or no counter left.
func (s *State) full() bool {
	return s.clock.Of(s.self) >= api.MaxOps || s.greatest >= api.MaxCounter
}

// write makes the copy's next operation and applies it.
func (s *State) write(kind op.Kind, target op.Mark, r rune) {
	s.apply(op.Operation{
		Name:    op.Name{Origin: s.self, Number: s.clock.Of(s.self) + 1},
		Counter: s.greatest + 1,
		Kind:    kind,
		Target:  target,
		Rune:    r,
		Clock:   s.clock,
	})
}

// apply does what an operation says, whoever made it.
func (s *State) apply(o op.Operation) {
	s.clock.Count(o.Origin)
	s.greatest = max(s.greatest, o.Counter)
	s.applied[o.Name] = o
	switch o.Kind {
	case op.Insert:
		s.line.Lay(o.Mark(), o.Target, o.Rune)
	case op.Delete:
		s.line.Strike(o.Target)
	}
}
