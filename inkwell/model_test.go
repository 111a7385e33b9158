package inkwell

import (
	"cmp"
	"encoding/binary"
	"math/rand"
	"slices"
	"testing"

	"inkwell/api"
)

// told is an operation as the document has it.
type told struct {
	origin, number int
	counter        int64
	gone           bool // a delete
	target         [2]int64
	letter         rune
	clock          []int
}

func (o told) mark() [2]int64 { return [2]int64{o.counter, int64(o.origin)} }

func (o told) bytes() []byte {
	var list []byte
	put := func(n int64) { list = binary.AppendUvarint(list, uint64(n)) }
	put(int64(o.origin))
	put(int64(o.number))
	put(o.counter)
	if o.gone {
		put(1)
	} else {
		put(0)
	}
	put(o.target[0])
	put(o.target[1])
	if !o.gone {
		put(int64(o.letter))
	}
	for _, n := range o.clock {
		put(int64(n))
	}
	return list
}

type piece struct {
	mark   [2]int64
	letter rune
	gone   bool
}

// model is a copy with all that it has in lists: slow and plain, to hold the program against.
type model struct {
	copies, self     int
	clock            []int
	greatest         int64
	applied, pending []told
	line             []piece
}

func (m *model) at(mark [2]int64) int {
	return slices.IndexFunc(m.line, func(p piece) bool { return p.mark == mark })
}

func (m *model) apply(o told) {
	m.clock[o.origin-1]++
	m.greatest = max(m.greatest, o.counter)
	m.applied = append(m.applied, o)
	place := m.at(o.target) // -1 is the beginning
	if o.gone {
		m.line[place].gone = true
		return
	}
	place++
	mark := o.mark()
	for place < len(m.line) && slices.Compare(m.line[place].mark[:], mark[:]) > 0 {
		place++
	}
	m.line = slices.Insert(m.line, place, piece{mark: mark, letter: o.letter})
}

func (m *model) ready(o told) bool {
	if o.number != m.clock[o.origin-1]+1 {
		return false
	}
	for i, n := range o.clock {
		if i != o.origin-1 && m.clock[i] < n {
			return false
		}
	}
	if o.target != [2]int64{} && m.at(o.target) < 0 {
		return false
	}
	return o.gone || m.at(o.mark()) < 0
}

func (m *model) take(o told) {
	same := func(p told) bool { return p.origin == o.origin && p.number == o.number }
	if o.number <= m.clock[o.origin-1] || slices.ContainsFunc(m.pending, same) {
		return
	}
	if !m.ready(o) {
		if len(m.pending) < 16 {
			m.pending = append(m.pending, o)
			slices.SortFunc(m.pending, func(a, b told) int {
				return cmp.Or(cmp.Compare(a.origin, b.origin), cmp.Compare(a.number, b.number))
			})
		}
		return
	}
	m.apply(o)
	for i := slices.IndexFunc(m.pending, m.ready); i >= 0; i = slices.IndexFunc(m.pending, m.ready) {
		o := m.pending[i]
		m.pending = slices.Delete(m.pending, i, i+1)
		m.apply(o)
	}
}

func (m *model) text() []piece {
	return slices.DeleteFunc(slices.Clone(m.line), func(p piece) bool { return p.gone })
}

func (m *model) write(place int, gone bool, letter rune) api.Errno {
	text := m.text()
	switch {
	case place < 0 || place > len(text) || gone && place == len(text):
		return api.ErrPlace
	case m.clock[m.self-1] == 100 || m.greatest == 1<<40:
		return api.ErrFull
	}
	o := told{origin: m.self, number: m.clock[m.self-1] + 1, counter: m.greatest + 1, gone: gone, letter: letter, clock: slices.Clone(m.clock)}
	if gone {
		o.target = text[place].mark
	} else if place > 0 {
		o.target = text[place-1].mark
	}
	m.apply(o)
	return api.OK
}

func (m *model) answer(clock []int) []string {
	var list []told
	for _, o := range m.applied {
		if o.number > clock[o.origin-1] {
			list = append(list, o)
		}
	}
	slices.SortFunc(list, func(a, b told) int {
		return cmp.Or(cmp.Compare(a.origin, b.origin), cmp.Compare(a.number, b.number))
	})
	var out []string
	for len(list) > 0 {
		n := 1
		for n < len(list) && len(batch(list[:n+1])) <= 120 {
			n++
		}
		out = append(out, batch(list[:n]))
		list = list[n:]
	}
	return out
}

func batch(list []told) string {
	bytes := binary.AppendUvarint([]byte("B"), uint64(len(list)))
	for _, o := range list {
		bytes = append(bytes, o.bytes()...)
	}
	return framed(string(bytes))
}

// forge gives an operation within the bounds of a frame, which m may be ready for or not.
func (m *model) forge(r *rand.Rand) told {
	o := told{origin: 1 + r.Intn(m.copies), gone: r.Intn(4) == 0, letter: rune('a' + r.Intn(26)), clock: make([]int, m.copies)}
	o.number = min(100, max(1, m.clock[o.origin-1]+1+max(-1, r.Intn(6)-3)))
	o.counter = m.greatest + 1 - int64(r.Intn(3)) + int64(r.Intn(3))
	if r.Intn(200) == 0 {
		o.counter = 1 << 40
	}
	o.counter = min(1<<40, max(2, o.counter))
	for i := range o.clock {
		o.clock[i] = min(100, r.Intn(m.clock[i]+1)+r.Intn(8)/7)
	}
	o.clock[o.origin-1] = o.number - 1
	switch {
	case r.Intn(6) == 0:
		o.target = [2]int64{1 + r.Int63n(min(o.counter-1, 50)), int64(1 + r.Intn(m.copies))}
	case len(m.line) > 0:
		if mark := m.line[r.Intn(len(m.line))].mark; mark[0] < o.counter {
			o.target = mark
		}
	}
	o.gone = o.gone && o.target[0] > 0
	return o
}

func agrees(t *testing.T, c *Copy, m *model) {
	t.Helper()
	var text []rune
	for _, p := range m.text() {
		text = append(text, p.letter)
	}
	if c.Text() != string(text) || c.Len() != len(text) || c.Pending() != len(m.pending) || !slices.Equal(c.Clock(), m.clock) {
		t.Fatalf("P6, P10: %q, %d, %d pending, %v, want %q, %d, %v", c.Text(), c.Len(), c.Pending(), c.Clock(), string(text), len(m.pending), m.clock)
	}
}

// TestLikeTheModel holds a copy against the model while forged batches, digests and writing come mixed.
func TestLikeTheModel(t *testing.T) {
	r := rand.New(rand.NewSource(12))
	most, applied, full := 0, 0, 0
	for range 250 {
		copies := 1 + r.Intn(8)
		self := 1 + r.Intn(copies)
		c, m := begin(t, copies, self), &model{copies: copies, self: self, clock: make([]int, copies)}
		for range 300 {
			switch r.Intn(8) {
			case 0:
				place := r.Intn(c.Len()+3) - 1
				if e, f := c.Insert(place, 'I'), m.write(place, false, 'I'); e != f {
					t.Fatalf("P4: Insert(%d) = %d, want %d", place, e, f)
				} else if e == api.ErrFull {
					full++
				}
			case 1:
				place := r.Intn(c.Len()+3) - 1
				if e, f := c.Delete(place), m.write(place, true, 0); e != f {
					t.Fatalf("P5: Delete(%d) = %d, want %d", place, e, f)
				}
			case 2:
				clock := make([]int, copies)
				bytes := []byte{'D', byte(1 + r.Intn(copies))}
				for i := range clock {
					clock[i] = min(100, r.Intn(m.clock[i]+3))
					bytes = append(bytes, byte(clock[i]))
				}
				if l, e := c.Handle(framed(string(bytes))); e != api.OK || !slices.Equal(l, m.answer(clock)) {
					t.Fatalf("P10: %v is answered %x, %d, want %x", clock, l, e, m.answer(clock))
				}
			default:
				list := []told{m.forge(r)}
				for r.Intn(2) == 0 && len(batch(list)) < 80 {
					list = append(list, m.forge(r))
				}
				if l, e := c.Handle(batch(list)); len(l) != 0 || e != api.OK {
					t.Fatalf("P10: %+v is answered %x, %d", list, l, e)
				}
				for _, o := range list {
					m.take(o)
				}
			}
			agrees(t, c, m)
			most = max(most, c.Pending())
		}
		applied += len(m.applied)
	}
	if most < 16 || applied < 10000 || full == 0 {
		t.Errorf("at most %d were pending, %d applied, %d times full: this tells little", most, applied, full)
	}
}
