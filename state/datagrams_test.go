package state

import (
	"reflect"
	"slices"
	"testing"

	"inkwell/api"
	"inkwell/frame"
	"inkwell/op"
)

// ofThree gives copy 2 of 3, to which operations of all three were applied, mixed.
func ofThree(t *testing.T) *State {
	t.Helper()
	s := begin(t, 3, 2)
	s.apply(op.Operation{Name: op.Name{Origin: 3, Number: 1}, Counter: 7, Kind: op.Insert, Rune: 'z'})
	s.Insert(0, 'a')
	s.apply(op.Operation{Name: op.Name{Origin: 1, Number: 1}, Counter: 9, Kind: op.Insert, Target: op.Mark{Counter: 8, Copy: 2}, Rune: 'b', Clock: op.Clock{0, 1, 1}})
	s.Delete(0)
	s.apply(op.Operation{Name: op.Name{Origin: 3, Number: 2}, Counter: 8, Kind: op.Delete, Target: op.Mark{Counter: 7, Copy: 3}, Clock: op.Clock{0, 0, 1}})
	s.Insert(1, 'c')
	if s.Text() != "bc" || s.clock != (op.Clock{1, 3, 2}) {
		t.Fatalf("%q, %v", s.Text(), s.clock)
	}
	return s
}

// digest gives a digest of copy 1 of 3.
func digest(clock op.Clock) string { return frame.WriteDigest(3, 1, clock) }

func TestTickIsTheDigest(t *testing.T) {
	if got := begin(t, 3, 2).Tick(); got != frame.WriteDigest(3, 2, op.Clock{}) {
		t.Errorf("P9: a new copy: %x", got)
	}
	if got := ofThree(t).Tick(); got != frame.WriteDigest(3, 2, op.Clock{1, 3, 2}) {
		t.Errorf("P9: %x", got)
	}
}

// TestDigestIsAnswered: the copies are told in order, of each the operations by number, from the one that the digest lacks.
func TestDigestIsAnswered(t *testing.T) {
	name := func(origin, number int) op.Name { return op.Name{Origin: origin, Number: number} }
	for _, x := range []struct {
		clock op.Clock
		names []op.Name
	}{
		{op.Clock{}, []op.Name{name(1, 1), name(2, 1), name(2, 2), name(2, 3), name(3, 1), name(3, 2)}},
		{op.Clock{1, 0, 0}, []op.Name{name(2, 1), name(2, 2), name(2, 3), name(3, 1), name(3, 2)}},
		{op.Clock{0, 2, 1}, []op.Name{name(1, 1), name(2, 3), name(3, 2)}},
		{op.Clock{1, 3, 1}, []op.Name{name(3, 2)}},
		{op.Clock{100, 0, 100}, []op.Name{name(2, 1), name(2, 2), name(2, 3)}},
		{op.Clock{1, 3, 2}, nil},
		{op.Clock{100, 100, 100}, nil},
		{op.Clock{2, 4, 3}, nil},
	} {
		s := ofThree(t)
		var want []op.Operation
		for _, n := range x.names {
			want = append(want, s.applied[n])
		}
		for _, asker := range []int{1, 2, 3} {
			got, e := s.Handle(frame.WriteDigest(3, asker, x.clock))
			if e != api.OK || !slices.Equal(got, frame.WriteBatches(3, want)) {
				t.Errorf("P10: %v: %x, %d, want %v", x.clock, got, e, x.names)
			}
		}
		if !reflect.DeepEqual(s, ofThree(t)) {
			t.Errorf("P10: the digest %v changed the copy", x.clock)
		}
	}
}

// TestPendingIsNotTold: an answer has what was applied, not what waits.
func TestPendingIsNotTold(t *testing.T) {
	s := ofThree(t)
	want, _ := s.Handle(digest(op.Clock{}))
	s.pending[op.Name{Origin: 3, Number: 4}] = op.Operation{Name: op.Name{Origin: 3, Number: 4}, Counter: 20, Rune: 'p', Clock: op.Clock{0, 0, 3}}
	if got, e := s.Handle(digest(op.Clock{})); e != api.OK || !slices.Equal(got, want) {
		t.Errorf("P10: %x, %d, want %x", got, e, want)
	}
}

// TestAllCopiesFull: the longest answer that there may be has each operation once, in order.
func TestAllCopiesFull(t *testing.T) {
	s := begin(t, api.MaxCopies, 8)
	var want []op.Operation
	for number := 1; number <= api.MaxOps; number++ {
		for origin := 1; origin <= api.MaxCopies; origin++ {
			s.apply(op.Operation{Name: op.Name{Origin: origin, Number: number}, Counter: api.MaxCounter - 100 + int64(number), Kind: op.Insert, Rune: 0x10ffff, Clock: s.clock})
		}
	}
	for origin := 1; origin <= api.MaxCopies; origin++ {
		for number := 1; number <= api.MaxOps; number++ {
			want = append(want, s.applied[op.Name{Origin: origin, Number: number}])
		}
	}
	answer, e := s.Handle(frame.WriteDigest(api.MaxCopies, 1, op.Clock{}))
	if e != api.OK {
		t.Fatalf("P10: %d", e)
	}
	var got []op.Operation
	for _, datagram := range answer {
		f, is := frame.Read(api.MaxCopies, datagram)
		if !is || f.Content != frame.Batch {
			t.Fatalf("P10: %x is no batch", datagram)
		}
		got = append(got, f.Operations...)
	}
	if !slices.Equal(got, want) {
		t.Errorf("P10: %d operations, want %d", len(got), len(want))
	}
}

func TestNoFrameChangesNothing(t *testing.T) {
	s := ofThree(t)
	good := digest(op.Clock{})
	batch := frame.WriteBatches(3, []op.Operation{{Name: op.Name{Origin: 1, Number: 2}, Counter: 20, Rune: 'n', Clock: op.Clock{1, 3, 2}}})[0]
	wrong := []string{"", good[1:], good + good, frame.WriteDigest(2, 1, op.Clock{}), frame.WriteDigest(4, 1, op.Clock{}), frame.WriteDigest(3, 4, op.Clock{}), frame.WriteDigest(3, 0, op.Clock{}), digest(op.Clock{0, 0, 101}), batch[1:], batch + "\x00", batch + batch}
	for at := range len(batch) {
		wrong = append(wrong, batch[:at]+string([]byte{batch[at] ^ 1})+batch[at+1:])
	}
	for _, datagram := range wrong {
		if got, e := s.Handle(datagram); got != nil || e != api.ErrFrame {
			t.Errorf("P10: %x: %x, %d", datagram, got, e)
		}
	}
	if !reflect.DeepEqual(s, ofThree(t)) {
		t.Error("P1: what is no frame changed the copy")
	}
}

func TestBatchesAreNotAnswered(t *testing.T) {
	for _, datagram := range frame.WriteBatches(3, []op.Operation{{Name: op.Name{Origin: 1, Number: 1}, Counter: 1, Rune: 'n'}}) {
		if got, e := ofThree(t).Handle(datagram); len(got) != 0 || e != api.OK {
			t.Errorf("P10: %x, %d", got, e)
		}
	}
}
