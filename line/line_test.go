package line

import (
	"math/rand"
	"testing"

	"inkwell/op"
)

type laid struct {
	mark, target op.Mark
	letter       rune
}

func of(all ...laid) *Line {
	l := New()
	for _, x := range all {
		l.Lay(x.mark, x.target, x.letter)
	}
	return l
}

func TestLay(t *testing.T) {
	begin := op.Beginning()
	for _, c := range []struct {
		why, text string
		all       []laid
	}{
		{"nothing", "", nil},
		{"behind the target", "abc", []laid{{op.Mark{Counter: 1, Copy: 1}, begin, 'a'}, {op.Mark{Counter: 2, Copy: 1}, op.Mark{Counter: 1, Copy: 1}, 'c'}, {op.Mark{Counter: 3, Copy: 1}, op.Mark{Counter: 1, Copy: 1}, 'b'}}},
		{"at the head, above what is there", "ba", []laid{{op.Mark{Counter: 1, Copy: 1}, begin, 'a'}, {op.Mark{Counter: 2, Copy: 1}, begin, 'b'}}},
		{"at the head, behind a mark above", "xabc", []laid{{op.Mark{Counter: 1, Copy: 2}, begin, 'x'}, {op.Mark{Counter: 1, Copy: 1}, begin, 'a'}, {op.Mark{Counter: 2, Copy: 1}, op.Mark{Counter: 1, Copy: 1}, 'b'}, {op.Mark{Counter: 3, Copy: 1}, op.Mark{Counter: 2, Copy: 1}, 'c'}}},
		{"the same in the other order", "xabc", []laid{{op.Mark{Counter: 1, Copy: 1}, begin, 'a'}, {op.Mark{Counter: 2, Copy: 1}, op.Mark{Counter: 1, Copy: 1}, 'b'}, {op.Mark{Counter: 3, Copy: 1}, op.Mark{Counter: 2, Copy: 1}, 'c'}, {op.Mark{Counter: 1, Copy: 2}, begin, 'x'}}},
		{"behind several marks above, up to the first below", "azyma", []laid{{op.Mark{Counter: 1, Copy: 1}, begin, 'a'}, {op.Mark{Counter: 2, Copy: 1}, op.Mark{Counter: 1, Copy: 1}, 'a'}, {op.Mark{Counter: 4, Copy: 2}, op.Mark{Counter: 1, Copy: 1}, 'y'}, {op.Mark{Counter: 5, Copy: 2}, op.Mark{Counter: 1, Copy: 1}, 'z'}, {op.Mark{Counter: 3, Copy: 3}, op.Mark{Counter: 1, Copy: 1}, 'm'}}},
		{"behind all to the end", "azym", []laid{{op.Mark{Counter: 1, Copy: 1}, begin, 'a'}, {op.Mark{Counter: 4, Copy: 2}, op.Mark{Counter: 1, Copy: 1}, 'y'}, {op.Mark{Counter: 5, Copy: 2}, op.Mark{Counter: 1, Copy: 1}, 'z'}, {op.Mark{Counter: 3, Copy: 3}, op.Mark{Counter: 1, Copy: 1}, 'm'}}},
	} {
		l := of(c.all...)
		if l.Text() != c.text || l.Len() != len(c.all) {
			t.Errorf("Words: %s: %q, %d, want %q", c.why, l.Text(), l.Len(), c.text)
		}
	}
}

func TestStrike(t *testing.T) {
	a, b, c := op.Mark{Counter: 1, Copy: 1}, op.Mark{Counter: 2, Copy: 1}, op.Mark{Counter: 3, Copy: 1}
	l := of(laid{a, op.Beginning(), 'a'}, laid{b, a, 'b'}, laid{c, b, 'c'})
	l.Strike(b)
	if l.Text() != "ac" || l.Len() != 2 || l.MarkAt(1) != c {
		t.Errorf("Words: deleted: %q, %d, %v", l.Text(), l.Len(), l.MarkAt(1))
	}
	l.Strike(b)
	if l.Text() != "ac" {
		t.Errorf("Words: deleted twice: %q", l.Text())
	}
	l.Strike(op.Mark{Counter: 9, Copy: 9})
	if l.Text() != "ac" {
		t.Errorf("an element that is not there was deleted: %q", l.Text())
	}
	l.Lay(op.Mark{Counter: 4, Copy: 1}, b, 'B')
	if l.Text() != "aBc" {
		t.Errorf("Words: behind a deleted element: %q", l.Text())
	}
}

// A deleted element goes on keeping its place among those that are laid later.
func TestLayPassesDeletedElements(t *testing.T) {
	a, y, z := op.Mark{Counter: 1, Copy: 1}, op.Mark{Counter: 4, Copy: 2}, op.Mark{Counter: 5, Copy: 2}
	l := of(laid{a, op.Beginning(), 'a'}, laid{y, a, 'y'}, laid{z, a, 'z'})
	l.Strike(z)
	l.Lay(op.Mark{Counter: 3, Copy: 3}, a, 'm')
	if l.Text() != "aym" {
		t.Errorf("Words: behind a deleted element with a mark above: %q", l.Text())
	}
}

func TestMarkAt(t *testing.T) {
	a, b := op.Mark{Counter: 1, Copy: 1}, op.Mark{Counter: 2, Copy: 1}
	l := of(laid{a, op.Beginning(), 'a'}, laid{b, a, 'b'})
	for place, want := range map[int]op.Mark{0: a, 1: b, 2: op.Beginning(), -1: op.Beginning(), -1 << 63: op.Beginning(), 1<<63 - 1: op.Beginning()} {
		if m := l.MarkAt(place); m != want {
			t.Errorf("MarkAt(%d) = %v, want %v", place, m, want)
		}
	}
}

func TestHas(t *testing.T) {
	a, b := op.Mark{Counter: 1, Copy: 1}, op.Mark{Counter: 2, Copy: 1}
	l := of(laid{a, op.Beginning(), 'a'}, laid{b, a, 'b'})
	l.Strike(a)
	for mark, want := range map[op.Mark]bool{op.Beginning(): true, a: true, b: true, {Counter: 1, Copy: 2}: false, {Counter: 3, Copy: 1}: false, {Counter: 0, Copy: 1}: false} {
		if got := l.Has(mark); got != want {
			t.Errorf("P11: Has(%v) = %v", mark, got)
		}
	}
	if l.Text() != "b" || len(l.elements) != 3 {
		t.Errorf("asking changed the line: %q, %d", l.Text(), len(l.elements))
	}
}

// TestAnyOrder: a target stands ahead of what is laid behind it; whatever else comes first, the line is the same.
func TestAnyOrder(t *testing.T) {
	r := rand.New(rand.NewSource(3))
	for range 300 {
		all := []laid{}
		targets := []op.Mark{op.Beginning()}
		for i := range 12 {
			target := targets[r.Intn(len(targets))]
			mark := op.Mark{Counter: target.Counter + 1 + int64(r.Intn(2)), Copy: i + 1}
			all = append(all, laid{mark, target, rune('a' + i)})
			targets = append(targets, mark)
		}
		want := of(all...).Text()
		for range 10 {
			l := New()
			for tries := 0; l.Len() < len(all) && tries < 10000; tries++ {
				if x := all[r.Intn(len(all))]; l.Has(x.target) && !l.Has(x.mark) {
					l.Lay(x.mark, x.target, x.letter)
				}
			}
			if l.Text() != want {
				t.Fatalf("P12: %q and %q of %v", l.Text(), want, all)
			}
		}
	}
}
