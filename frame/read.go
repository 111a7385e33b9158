package frame

import (
	"unicode/utf8"

	"inkwell/api"
	"inkwell/op"
)

// longestVarint is how many bytes of 7 bits an int64 has room for; a longer varint is above every bound.
const longestVarint = 9

// Read gives what a datagram says to one of so many copies, and whether it is a frame (P8).
func Read(copies int, datagram string) (Frame, bool) {
	inner, right := unseal(datagram)
	if !right || inner == "" {
		return Frame{}, false
	}
	r := reader{copies: copies, rest: inner[1:]}
	var f Frame
	switch inner[0] {
	case headOfDigest:
		f = r.digest()
	case headOfBatch:
		f = r.batch()
	default:
		return Frame{}, false
	}
	if r.wrong || r.rest != "" {
		return Frame{}, false
	}
	return f, true
}

// reader takes numbers off the bytes of a datagram. Once something was wrong it stays so: what it gives from then on means nothing, but is within its bounds.
type reader struct {
	copies int
	rest   string
	wrong  bool
}

func (r *reader) digest() Frame {
	return Frame{Content: Digest, Copy: r.small(1, r.copies), Clock: r.clock()}
}

func (r *reader) batch() Frame {
	f := Frame{Content: Batch}
	// An operation has some bytes, so a count above MaxDatagram is never right.
	count := r.small(1, api.MaxDatagram)
	for len(f.Operations) < count && !r.wrong {
		f.Operations = append(f.Operations, r.operation())
	}
	return f
}

func (r *reader) operation() op.Operation {
	var o op.Operation
	o.Origin = r.small(1, r.copies)
	o.Number = r.small(1, api.MaxOps)
	o.Counter = r.number(1, api.MaxCounter)
	o.Kind = op.Kind(r.small(int(op.Insert), int(op.Delete)))
	o.Target = r.target(o)
	if o.Kind == op.Insert {
		o.Rune = r.letter()
	}
	o.Clock = r.clock()
	r.must(o.Clock.Of(o.Origin) == o.Number-1)
	return o
}

// target reads the target of an operation whose counter and kind are read.
func (r *reader) target(o op.Operation) op.Mark {
	counter := r.number(0, o.Counter-1)
	if counter > 0 {
		return op.Mark{Counter: counter, Copy: r.small(1, r.copies)}
	}
	r.must(o.Kind == op.Insert)
	r.small(0, 0)
	return op.Beginning()
}

func (r *reader) letter() rune {
	letter := rune(r.small(0, utf8.MaxRune))
	r.must(utf8.ValidRune(letter))
	return letter
}

func (r *reader) clock() op.Clock {
	var clock op.Clock
	for i := range r.copies {
		clock[i] = r.small(0, api.MaxOps)
	}
	return clock
}

func (r *reader) small(least, greatest int) int {
	return int(r.number(int64(least), int64(greatest)))
}

// number reads a varint with bounds. A wrong one is given as the least, so that what is read by it needs no care.
func (r *reader) number(least, greatest int64) int64 {
	n := r.varint()
	r.must(least <= n && n <= greatest)
	if r.wrong {
		return least
	}
	return n
}

// varint reads a varint in its shortest form, whose last byte is 0 only if it is alone.
func (r *reader) varint() int64 {
	var n int64
	for i := range min(len(r.rest), longestVarint) {
		b := r.rest[i]
		n |= int64(b%128) << (7 * i)
		if b < 128 {
			r.must(b > 0 || i == 0)
			r.rest = r.rest[i+1:]
			return n
		}
	}
	r.must(false)
	return 0
}

func (r *reader) must(hold bool) {
	r.wrong = r.wrong || !hold
}
