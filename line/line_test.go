package line

import (
	"testing"

	"inkwell/op"
)

type laid struct {
	mark, target op.Mark
	letter       rune
}

func of(all ...laid) *Line {
	l := New()
	for _, x := range all {
		l.Lay(x.mark, x.target, x.letter)
	}
	return l
}

func TestLay(t *testing.T) {
	begin := op.Beginning()
	for _, c := range []struct {
		why, text string
		all       []laid
	}{
		{"nothing", "", nil},
		{"behind the target", "abc", []laid{{op.Mark{Counter: 1, Copy: 1}, begin, 'a'}, {op.Mark{Counter: 2, Copy: 1}, op.Mark{Counter: 1, Copy: 1}, 'c'}, {op.Mark{Counter: 3, Copy: 1}, op.Mark{Counter: 1, Copy: 1}, 'b'}}},
		{"at the head, above what is there", "ba", []laid{{op.Mark{Counter: 1, Copy: 1}, begin, 'a'}, {op.Mark{Counter: 2, Copy: 1}, begin, 'b'}}},
		{"at the head, behind a mark above", "xabc", []laid{{op.Mark{Counter: 1, Copy: 2}, begin, 'x'}, {op.Mark{Counter: 1, Copy: 1}, begin, 'a'}, {op.Mark{Counter: 2, Copy: 1}, op.Mark{Counter: 1, Copy: 1}, 'b'}, {op.Mark{Counter: 3, Copy: 1}, op.Mark{Counter: 2, Copy: 1}, 'c'}}},
		{"the same in the other order", "xabc", []laid{{op.Mark{Counter: 1, Copy: 1}, begin, 'a'}, {op.Mark{Counter: 2, Copy: 1}, op.Mark{Counter: 1, Copy: 1}, 'b'}, {op.Mark{Counter: 3, Copy: 1}, op.Mark{Counter: 2, Copy: 1}, 'c'}, {op.Mark{Counter: 1, Copy: 2}, begin, 'x'}}},
		{"behind several marks above, up to the first below", "azyma", []laid{{op.Mark{Counter: 1, Copy: 1}, begin, 'a'}, {op.Mark{Counter: 2, Copy: 1}, op.Mark{Counter: 1, Copy: 1}, 'a'}, {op.Mark{Counter: 4, Copy: 2}, op.Mark{Counter: 1, Copy: 1}, 'y'}, {op.Mark{Counter: 5, Copy: 2}, op.Mark{Counter: 1, Copy: 1}, 'z'}, {op.Mark{Counter: 3, Copy: 3}, op.Mark{Counter: 1, Copy: 1}, 'm'}}},
		{"behind all to the end", "azym", []laid{{op.Mark{Counter: 1, Copy: 1}, begin, 'a'}, {op.Mark{Counter: 4, Copy: 2}, op.Mark{Counter: 1, Copy: 1}, 'y'}, {op.Mark{Counter: 5, Copy: 2}, op.Mark{Counter: 1, Copy: 1}, 'z'}, {op.Mark{Counter: 3, Copy: 3}, op.Mark{Counter: 1, Copy: 1}, 'm'}}},
	} {
		l := of(c.all...)
		if l.Text() != c.text || l.Len() != len(c.all) {
			t.Errorf("Words: %s: %q, %d, want %q", c.why, l.Text(), l.Len(), c.text)
		}
	}
}

func TestStrike(t *testing.T) {
	a, b, c := op.Mark{Counter: 1, Copy: 1}, op.Mark{Counter: 2, Copy: 1}, op.Mark{Counter: 3, Copy: 1}
	l := of(laid{a, op.Beginning(), 'a'}, laid{b, a, 'b'}, laid{c, b, 'c'})
	l.Strike(b)
	if l.Text() != "ac" || l.Len() != 2 || l.MarkAt(1) != c {
		t.Errorf("Words: deleted: %q, %d, %v", l.Text(), l.Len(), l.MarkAt(1))
	}
	l.Strike(b)
	if l.Text() != "ac" {
		t.Errorf("Words: deleted twice: %q", l.Text())
	}
	l.Strike(op.Mark{Counter: 9, Copy: 9})
	if l.Text() != "ac" {
		t.Errorf("an element that is not there was deleted: %q", l.Text())
	}
	l.Lay(op.Mark{Counter: 4, Copy: 1}, b, 'B')
	if l.Text() != "aBc" {
		t.Errorf("Words: behind a deleted element: %q", l.Text())
	}
}

// A deleted element goes on keeping its place among those that are laid later.
func TestLayPassesDeletedElements(t *testing.T) {
	a, y, z := op.Mark{Counter: 1, Copy: 1}, op.Mark{Counter: 4, Copy: 2}, op.Mark{Counter: 5, Copy: 2}
	l := of(laid{a, op.Beginning(), 'a'}, laid{y, a, 'y'}, laid{z, a, 'z'})
	l.Strike(z)
	l.Lay(op.Mark{Counter: 3, Copy: 3}, a, 'm')
	if l.Text() != "aym" {
		t.Errorf("Words: behind a deleted element with a mark above: %q", l.Text())
	}
}

func TestMarkAt(t *testing.T) {
	a, b := op.Mark{Counter: 1, Copy: 1}, op.Mark{Counter: 2, Copy: 1}
	l := of(laid{a, op.Beginning(), 'a'}, laid{b, a, 'b'})
	for place, want := range map[int]op.Mark{0: a, 1: b, 2: op.Beginning(), -1: op.Beginning(), -1 << 63: op.Beginning(), 1<<63 - 1: op.Beginning()} {
		if m := l.MarkAt(place); m != want {
			t.Errorf("MarkAt(%d) = %v, want %v", place, m, want)
		}
	}
}
