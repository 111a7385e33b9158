package state

import (
	"reflect"
	"testing"

	"inkwell/api"
	"inkwell/op"
)

func begin(t *testing.T, copies, self int) *State {
	t.Helper()
	s, e := New(api.Config{Copies: copies, Self: self})
	if s == nil || e != api.OK {
		t.Fatalf("P3: New(%d, %d) = %v, %d", copies, self, s, e)
	}
	return s
}

func TestNewKnowsNothing(t *testing.T) {
	s := begin(t, 3, 2)
	if s.copies != 3 || s.self != 2 || s.clock != (op.Clock{}) || s.greatest != 0 || len(s.applied) != 0 || s.Pending() != 0 || s.Text() != "" {
		t.Errorf("P3: %+v", s)
	}
}

// TestOperationsMade looks at each field that P4 and P5 give an operation.
func TestOperationsMade(t *testing.T) {
	s := begin(t, 3, 2)
	s.apply(op.Operation{Name: op.Name{Origin: 3, Number: 1}, Counter: 7, Kind: op.Insert, Rune: 'z'})
	for i, e := range []api.Errno{s.Insert(0, 'a'), s.Insert(2, 'b'), s.Delete(1), s.Insert(1, 'c')} {
		if e != api.OK {
			t.Fatalf("P4, P5: step %d: %d", i, e)
		}
	}
	for _, want := range []op.Operation{
		{Name: op.Name{Origin: 2, Number: 1}, Counter: 8, Kind: op.Insert, Target: op.Beginning(), Rune: 'a', Clock: op.Clock{0, 0, 1}},
		{Name: op.Name{Origin: 2, Number: 2}, Counter: 9, Kind: op.Insert, Target: op.Mark{Counter: 7, Copy: 3}, Rune: 'b', Clock: op.Clock{0, 1, 1}},
		{Name: op.Name{Origin: 2, Number: 3}, Counter: 10, Kind: op.Delete, Target: op.Mark{Counter: 7, Copy: 3}, Clock: op.Clock{0, 2, 1}},
		{Name: op.Name{Origin: 2, Number: 4}, Counter: 11, Kind: op.Insert, Target: op.Mark{Counter: 8, Copy: 2}, Rune: 'c', Clock: op.Clock{0, 3, 1}},
	} {
		if got := s.applied[want.Name]; got != want {
			t.Errorf("P4, P5: made %+v, want %+v", got, want)
		}
	}
	if s.Text() != "acb" || len(s.applied) != 5 || s.clock != (op.Clock{0, 4, 1}) {
		t.Errorf("P4, P5: %q, %d applied, clock %v", s.Text(), len(s.applied), s.clock)
	}
}

func TestApplyKeepsTheGreatestCounter(t *testing.T) {
	s := begin(t, 3, 1)
	s.apply(op.Operation{Name: op.Name{Origin: 2, Number: 1}, Counter: 9, Kind: op.Insert, Rune: 'x'})
	s.apply(op.Operation{Name: op.Name{Origin: 3, Number: 1}, Counter: 4, Kind: op.Insert, Rune: 'y'})
	if s.greatest != 9 || s.clock != (op.Clock{0, 1, 1}) || s.Text() != "xy" {
		t.Errorf("Words: greatest %d, clock %v, %q", s.greatest, s.clock, s.Text())
	}
	s.apply(op.Operation{Name: op.Name{Origin: 2, Number: 2}, Counter: 10, Kind: op.Delete, Target: op.Mark{Counter: 4, Copy: 3}})
	s.apply(op.Operation{Name: op.Name{Origin: 3, Number: 2}, Counter: 10, Kind: op.Delete, Target: op.Mark{Counter: 4, Copy: 3}})
	if s.greatest != 10 || s.clock != (op.Clock{0, 2, 2}) || s.Text() != "x" {
		t.Errorf("Words: deleted twice: greatest %d, clock %v, %q", s.greatest, s.clock, s.Text())
	}
}

// TestNoCounterLeft: the last counter may be used, none behind it.
func TestNoCounterLeft(t *testing.T) {
	s := begin(t, 2, 1)
	s.apply(op.Operation{Name: op.Name{Origin: 2, Number: 1}, Counter: api.MaxCounter - 1, Kind: op.Insert, Rune: 'x'})
	if e := s.Insert(1, 'y'); e != api.OK || s.greatest != api.MaxCounter {
		t.Fatalf("P4: the last counter: %d, greatest %d", e, s.greatest)
	}
	if e := s.Insert(0, 'z'); e != api.ErrFull {
		t.Errorf("P4: Insert = %d, want ErrFull", e)
	}
	if e := s.Delete(0); e != api.ErrFull {
		t.Errorf("P5: Delete = %d, want ErrFull", e)
	}
	if e, f, g := s.Insert(3, -1), s.Insert(2, -1), s.Delete(2); e != api.ErrPlace || f != api.ErrRune || g != api.ErrPlace {
		t.Errorf("P1: which error is first: %d, %d, %d", e, f, g)
	}
	if s.Text() != "xy" || s.clock != (op.Clock{1, 1}) {
		t.Errorf("P1: %q, %v", s.Text(), s.clock)
	}
}

// TestOthersDoNotFill: MaxOps is of the copy's own operations.
func TestOthersDoNotFill(t *testing.T) {
	s := begin(t, 2, 1)
	for i := range api.MaxOps {
		s.apply(op.Operation{Name: op.Name{Origin: 2, Number: i + 1}, Counter: int64(i + 1), Kind: op.Insert, Rune: 'x'})
	}
	if e, f := s.Insert(100, 'y'), s.Delete(0); e != api.OK || f != api.OK {
		t.Errorf("P4, P5: another copy is full: %d, %d", e, f)
	}
}

// TestErrorsChangeNothing holds the whole state against one that saw no wrong call.
func TestErrorsChangeNothing(t *testing.T) {
	written := func() *State {
		s := begin(t, 2, 2)
		for i := range api.MaxOps - 2 {
			s.Insert(i/2, 'x')
		}
		s.Delete(3)
		return s
	}
	s, want := written(), written()
	wrong := func() {
		for _, place := range []int{-1 << 63, -1, 98, 1<<63 - 1} {
			if e, f := s.Insert(place, 'x'), s.Delete(place); e != api.ErrPlace || f != api.ErrPlace {
				t.Errorf("P4, P5: the place %d: %d, %d", place, e, f)
			}
		}
		for _, r := range []rune{-1 << 31, -1, 0xd800, 0xdfff, 0x110000, 1<<31 - 1} {
			if e := s.Insert(0, r); e != api.ErrRune {
				t.Errorf("P4: the rune %d: %d", r, e)
			}
		}
	}
	wrong()
	if !reflect.DeepEqual(s, want) {
		t.Errorf("P1: a wrong call changed the copy")
	}
	s.Delete(0)
	want.Delete(0)
	if e, f := s.Insert(0, 'x'), s.Delete(0); e != api.ErrFull || f != api.ErrFull {
		t.Errorf("P4, P5: full: %d, %d", e, f)
	}
	wrong()
	if !reflect.DeepEqual(s, want) {
		t.Errorf("P1: a wrong call changed the copy that is full")
	}
}

func TestAskingChangesNothing(t *testing.T) {
	written := func() *State {
		s := begin(t, 2, 1)
		s.Insert(0, 'a')
		s.Insert(1, 'b')
		s.Delete(0)
		return s
	}
	s, want := written(), written()
	s.Text()
	s.Len()
	s.Clock()
	s.Pending()
	s.Tick()
	if !reflect.DeepEqual(s, want) {
		t.Errorf("P2: asking changed the copy")
	}
}

func TestPendingCountsWhatWaits(t *testing.T) {
	s := begin(t, 2, 1)
	s.pending[op.Name{Origin: 2, Number: 2}] = op.Operation{Name: op.Name{Origin: 2, Number: 2}}
	s.pending[op.Name{Origin: 2, Number: 3}] = op.Operation{Name: op.Name{Origin: 2, Number: 3}}
	if s.Pending() != 2 || s.Len() != 0 {
		t.Errorf("P6: %d pending, %d runes", s.Pending(), s.Len())
	}
}
