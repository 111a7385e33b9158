// Package op: marks, clocks, and the operations that copies make.
package op

import "inkwell/api"

// Mark names an insert, and the element that it made, alike in all copies.
type Mark struct {
	Counter int64 // an int may be too narrow for MaxCounter
	Copy    int
}

// Beginning is the mark that stands ahead of every element.
func Beginning() Mark { return Mark{} }

// Above tells whether m comes behind n in the order of marks.
func (m Mark) Above(n Mark) bool {
	if m.Counter != n.Counter {
		return m.Counter > n.Counter
	}
	return m.Copy > n.Copy
}

// Kind is what an operation does; the numbers are those that datagrams carry.
type Kind int

const (
	Insert Kind = iota
	Delete
)

// Clock is how many operations of each copy are known. It is an array, so that an operation's clock stays as it was when the copy's goes on.
type Clock [api.MaxCopies]int

// Of is how many operations of a copy (1 to MaxCopies) are known.
func (c *Clock) Of(number int) int { return c[number-1] }

// Count takes one more operation of a copy (1 to MaxCopies) as known.
func (c *Clock) Count(number int) { c[number-1]++ }

// Covers tells whether of each copy at least as many operations are known as another clock counts.
func (c *Clock) Covers(other Clock) bool {
	for i, count := range other {
		if c[i] < count {
			return false
		}
	}
	return true
}

// Name tells one operation from all others.
type Name struct {
	Origin, Number int
}

// Operation is one act of writing, as every copy applies it.
type Operation struct {
	Name
	Counter int64
	Kind    Kind
	Target  Mark
	Rune    rune // of an insert alone
	Clock   Clock
}

// Mark is the operation's own mark.
func (o Operation) Mark() Mark { return Mark{Counter: o.Counter, Copy: o.Origin} }
