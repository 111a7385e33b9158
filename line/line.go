// Package line: the elements of a text in their order, deleted ones among them.
package line

import (
	"iter"
	"strings"

	"inkwell/op"
)

type element struct {
	letter  rune
	deleted bool
	next    op.Mark
}

// Line holds the elements by their marks.
type Line struct {
	elements map[op.Mark]element
}

// New gives a line without elements.
func New() *Line {
	// The beginning is kept as if it were an element, and the line runs back to it: so the head is no special case.
	return &Line{elements: map[op.Mark]element{op.Beginning(): {next: op.Beginning()}}}
}

// Has tells whether a mark is that of an element, deleted or not, or the beginning: an insert may have it as its target.
func (l *Line) Has(mark op.Mark) bool {
	_, found := l.elements[mark]
	return found
}

// Lay puts a new element where all copies put it. The target must be in the line or the beginning, the mark must be new.
func (l *Line) Lay(mark, target op.Mark, letter rune) {
	ahead := target
	// This ends at the last element: the beginning, which follows it, is above no mark.
	for l.elements[ahead].next.Above(mark) {
		ahead = l.elements[ahead].next
	}
	before := l.elements[ahead]
	l.elements[mark] = element{letter: letter, next: before.next}
	before.next = mark
	l.elements[ahead] = before
}

// Strike takes an element out of the text. It stays in the line, for later inserts may have it as their target.
func (l *Line) Strike(mark op.Mark) {
	e, found := l.elements[mark]
	if !found {
		return
	}
	e.deleted = true
	l.elements[mark] = e
}

// MarkAt is the mark of the element with the rune at a place of the text, or the beginning if no rune is there.
func (l *Line) MarkAt(place int) op.Mark {
	at := 0
	for mark := range l.there() {
		if at == place {
			return mark
		}
		at++
	}
	return op.Beginning()
}

// Text is the runes of the elements that are there.
func (l *Line) Text() string {
	var text strings.Builder
	for _, letter := range l.there() {
		text.WriteRune(letter)
	}
	return text.String()
}

// Len is how many elements are there.
func (l *Line) Len() int {
	count := 0
	for range l.there() {
		count++
	}
	return count
}

// there goes through the elements that are not deleted, in order.
func (l *Line) there() iter.Seq2[op.Mark, rune] {
	return func(yield func(op.Mark, rune) bool) {
		for mark := l.elements[op.Beginning()].next; mark != op.Beginning(); mark = l.elements[mark].next {
			e := l.elements[mark]
			if !e.deleted && !yield(mark, e.letter) {
				return
			}
		}
	}
}
