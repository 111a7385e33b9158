package state

import (
	"reflect"
	"testing"

	"inkwell/api"
	"inkwell/frame"
	"inkwell/op"
)

func named(origin, number int) op.Name { return op.Name{Origin: origin, Number: number} }

func mark(counter int64, copy int) op.Mark { return op.Mark{Counter: counter, Copy: copy} }

// tell hands a state batches of operations.
func tell(t *testing.T, s *State, operations ...op.Operation) {
	t.Helper()
	for _, datagram := range frame.WriteBatches(s.copies, operations) {
		if answer, e := s.Handle(datagram); answer != nil || e != api.OK {
			t.Errorf("P10: a batch is answered %x, %d", answer, e)
		}
	}
}

// untouched fails unless telling operations to ofThree leaves it as it was.
func untouched(t *testing.T, why string, operations ...op.Operation) {
	t.Helper()
	s := ofThree(t)
	tell(t, s, operations...)
	if !reflect.DeepEqual(s, ofThree(t)) {
		t.Errorf("P10: %s: %q, clock %v, %d pending", why, s.Text(), s.clock, s.Pending())
	}
}

// TestReady takes each of P11's conditions at its edge. The line of ofThree has the marks 7 3 and 8 2 (deleted), 9 1 and 11 2; the clock is 1 3 2.
func TestReady(t *testing.T) {
	begin := op.Beginning()
	for _, x := range []struct {
		why  string
		o    op.Operation
		want bool
		text string // when it is applied
	}{
		{"the next of copy 1", op.Operation{Name: named(1, 2), Counter: 12, Rune: 'n', Target: begin, Clock: op.Clock{1, 3, 2}}, true, "nbc"},
		{"the next of copy 1, which knows less", op.Operation{Name: named(1, 2), Counter: 1, Rune: 'n', Target: begin, Clock: op.Clock{1, 0, 0}}, true, "bcn"},
		{"the next of copy 3", op.Operation{Name: named(3, 3), Counter: 12, Rune: 'n', Target: mark(9, 1), Clock: op.Clock{1, 3, 2}}, true, "bnc"},
		{"the next of the copy itself", op.Operation{Name: named(2, 4), Counter: 12, Rune: 'n', Target: mark(11, 2), Clock: op.Clock{1, 3, 2}}, true, "bcn"},
		{"one further on", op.Operation{Name: named(1, 3), Counter: 12, Rune: 'n', Target: begin, Clock: op.Clock{2, 3, 2}}, false, ""},
		{"the last number", op.Operation{Name: named(1, 100), Counter: 12, Rune: 'n', Target: begin, Clock: op.Clock{99, 3, 2}}, false, ""},
		{"it counts one of copy 2 more", op.Operation{Name: named(1, 2), Counter: 12, Rune: 'n', Target: begin, Clock: op.Clock{1, 4, 2}}, false, ""},
		{"it counts one of copy 3 more", op.Operation{Name: named(1, 2), Counter: 12, Rune: 'n', Target: begin, Clock: op.Clock{1, 3, 3}}, false, ""},
		{"it counts one of copy 1 more", op.Operation{Name: named(3, 3), Counter: 12, Rune: 'n', Target: begin, Clock: op.Clock{2, 3, 2}}, false, ""},
		{"behind a deleted element", op.Operation{Name: named(1, 2), Counter: 12, Rune: 'n', Target: mark(8, 2), Clock: op.Clock{1, 3, 2}}, true, "nbc"},
		{"behind no element of that counter", op.Operation{Name: named(1, 2), Counter: 13, Rune: 'n', Target: mark(12, 2), Clock: op.Clock{1, 3, 2}}, false, ""},
		{"behind no element of that copy", op.Operation{Name: named(1, 2), Counter: 12, Rune: 'n', Target: mark(11, 1), Clock: op.Clock{1, 3, 2}}, false, ""},
		{"behind the mark of a delete", op.Operation{Name: named(1, 2), Counter: 12, Rune: 'n', Target: mark(10, 2), Clock: op.Clock{1, 3, 2}}, false, ""},
		{"an element has its mark", op.Operation{Name: named(1, 2), Counter: 9, Rune: 'n', Target: begin, Clock: op.Clock{1, 3, 2}}, false, ""},
		{"a deleted element has its mark", op.Operation{Name: named(3, 3), Counter: 7, Rune: 'n', Target: begin, Clock: op.Clock{1, 3, 2}}, false, ""},
		{"another copy's element has its counter", op.Operation{Name: named(1, 2), Counter: 11, Rune: 'n', Target: mark(9, 1), Clock: op.Clock{1, 3, 2}}, true, "bcn"},
		{"a delete has its mark", op.Operation{Name: named(3, 3), Counter: 8, Rune: 'n', Target: begin, Clock: op.Clock{1, 3, 2}}, true, "nbc"},
		{"a delete", op.Operation{Name: named(1, 2), Counter: 12, Kind: op.Delete, Target: mark(9, 1), Clock: op.Clock{1, 3, 2}}, true, "c"},
		{"a delete of a deleted element", op.Operation{Name: named(1, 2), Counter: 12, Kind: op.Delete, Target: mark(8, 2), Clock: op.Clock{1, 3, 2}}, true, "bc"},
		{"a delete of no element", op.Operation{Name: named(1, 2), Counter: 12, Kind: op.Delete, Target: mark(10, 2), Clock: op.Clock{1, 3, 2}}, false, ""},
		{"a delete with an element's mark", op.Operation{Name: named(1, 2), Counter: 9, Kind: op.Delete, Target: mark(7, 3), Clock: op.Clock{1, 3, 2}}, true, "bc"},
	} {
		s := ofThree(t)
		clock := s.clock
		tell(t, s, x.o)
		_, waits := s.pending[x.o.Name]
		if x.want {
			clock.Count(x.o.Origin)
			if waits || s.clock != clock || s.applied[x.o.Name] != x.o || s.Text() != x.text || s.greatest != max(11, x.o.Counter) {
				t.Errorf("P11: %s: %q, clock %v, pending %v, greatest %d", x.why, s.Text(), s.clock, waits, s.greatest)
			}
			continue
		}
		if !waits || s.clock != clock || s.Text() != "bc" || s.greatest != 11 {
			t.Errorf("P11: %s: %q, clock %v, pending %v, greatest %d", x.why, s.Text(), s.clock, waits, s.greatest)
		}
		delete(s.pending, x.o.Name)
		if !reflect.DeepEqual(s, ofThree(t)) {
			t.Errorf("P10: %s: more than the pending changed", x.why)
		}
	}
}

// TestWhatTheClockCountsIsLeft: an operation that was applied changes nothing again, though it may say something else now.
func TestWhatTheClockCountsIsLeft(t *testing.T) {
	s := ofThree(t)
	for _, o := range s.applied {
		untouched(t, "told again", o)
		o.Kind, o.Rune, o.Counter, o.Target = op.Insert, 'n', 50, op.Beginning()
		untouched(t, "another with the name of one applied", o)
	}
	untouched(t, "all told again, and twice", append(s.beyond(op.Clock{}), s.beyond(op.Clock{})...)...)
}

// TestWhatIsPendingIsLeft: of two with one name the first waits on, even if the other is ready.
func TestWhatIsPendingIsLeft(t *testing.T) {
	s := ofThree(t)
	far := op.Operation{Name: named(1, 2), Counter: 14, Rune: 'f', Target: mark(13, 3), Clock: op.Clock{1, 3, 2}}
	other := op.Operation{Name: named(1, 2), Counter: 12, Rune: 'o', Clock: op.Clock{1, 3, 2}}
	tell(t, s, far)
	tell(t, s, far, other)
	tell(t, s, other)
	if s.Text() != "bc" || len(s.pending) != 1 || s.pending[far.Name] != far {
		t.Fatalf("P10: %q, pending %v", s.Text(), s.pending)
	}
	tell(t, s, op.Operation{Name: named(3, 3), Counter: 13, Rune: 't', Clock: op.Clock{1, 3, 2}})
	if s.Text() != "tfbc" || len(s.pending) != 0 || s.applied[far.Name] != far {
		t.Errorf("P10: %q, pending %v", s.Text(), s.pending)
	}
}

// chain gives operations of copy 2 from one number to another, each a rune behind all that went ahead; the first number is 1.
func chain(from, to int) []op.Operation {
	var list []op.Operation
	for n := from; n <= to; n++ {
		o := op.Operation{Name: named(2, n), Counter: int64(n), Rune: rune('a' + (n-1)%26), Clock: op.Clock{0, n - 1}}
		if n > 1 {
			o.Target = mark(int64(n-1), 2)
		}
		list = append(list, o)
	}
	return list
}

// TestRoomForPending: MaxPending operations wait, the next is left; one that is ready needs no room.
func TestRoomForPending(t *testing.T) {
	s := begin(t, 3, 1)
	tell(t, s, chain(2, 16)...)
	if s.Pending() != 15 {
		t.Fatalf("P10: %d pending", s.Pending())
	}
	tell(t, s, chain(17, 17)...)
	if s.Pending() != api.MaxPending {
		t.Fatalf("P10: %d pending, want MaxPending", s.Pending())
	}
	tell(t, s, chain(18, 30)...)
	tell(t, s, chain(2, 17)...)
	if _, waits := s.pending[named(2, 18)]; waits || s.Pending() != api.MaxPending || s.Text() != "" {
		t.Fatalf("P10: the seventeenth: %d pending, %q", s.Pending(), s.Text())
	}
	tell(t, s, op.Operation{Name: named(3, 1), Counter: 1, Rune: '!'})
	if s.Pending() != api.MaxPending || s.Text() != "!" {
		t.Fatalf("P10: ready with no room left: %d pending, %q", s.Pending(), s.Text())
	}
	tell(t, s, chain(1, 1)...)
	if s.Pending() != 0 || s.Text() != "!abcdefghijklmnopq" || s.clock != (op.Clock{0, 17, 1}) {
		t.Fatalf("P10: %d pending, %q, %v", s.Pending(), s.Text(), s.clock)
	}
	tell(t, s, chain(19, 40)...)
	if s.Pending() != api.MaxPending {
		t.Errorf("P10: room again: %d pending", s.Pending())
	}
}

// TestOneAfterTheOther: within one batch what one operation changes holds for the next, and what waits goes on ahead of it.
func TestOneAfterTheOther(t *testing.T) {
	all := chain(1, 5)
	for _, order := range [][]int{{0, 1, 2, 3, 4}, {4, 3, 2, 1, 0}, {1, 3, 0, 4, 2}, {0, 0, 2, 2, 1, 1, 4, 3}} {
		s := begin(t, 3, 1)
		var list []op.Operation
		for _, i := range order {
			list = append(list, all[i])
		}
		tell(t, s, list...)
		if s.Text() != "abcde" || s.Pending() != 0 || s.clock != (op.Clock{0, 5}) {
			t.Errorf("P10: %v: %q, %d pending, %v", order, s.Text(), s.Pending(), s.clock)
		}
	}
	// Room is counted anew behind each: 18 comes while 2 to 17 wait, 19 when they wait no more.
	s := begin(t, 3, 1)
	tell(t, s, chain(2, 17)...)
	tell(t, s, chain(18, 18)[0], chain(1, 1)[0], chain(19, 19)[0])
	if s.Pending() != 1 || s.clock != (op.Clock{0, 17}) {
		t.Errorf("P10: %d pending, %v", s.Pending(), s.clock)
	}
}

// TestFirstReady: by origin, then by number, never by what came first.
func TestFirstReady(t *testing.T) {
	s := begin(t, 4, 1)
	if _, found := s.firstReady(); found {
		t.Errorf("P10: something is ready where nothing waits")
	}
	wait := func(origin, number int, clock op.Clock) {
		s.pending[named(origin, number)] = op.Operation{Name: named(origin, number), Counter: int64(number), Rune: 'w', Clock: clock}
	}
	wait(4, 1, op.Clock{})
	wait(4, 2, op.Clock{0, 0, 0, 1})
	wait(3, 2, op.Clock{0, 0, 1})
	wait(3, 1, op.Clock{})
	wait(2, 1, op.Clock{0, 0, 0, 1})
	wait(1, 2, op.Clock{1})
	for _, want := range []op.Name{named(3, 1), named(3, 2), named(4, 1), named(2, 1), named(4, 2)} {
		o, found := s.firstReady()
		if !found || o.Name != want {
			t.Fatalf("P10: the first is %v, %v, want %v", o.Name, found, want)
		}
		delete(s.pending, o.Name)
		s.apply(o)
	}
	if o, found := s.firstReady(); found || o != (op.Operation{}) {
		t.Errorf("P10: %v is ready", o.Name)
	}
}

// TestPendingOfSeveralCopies: one operation sets off others that wait for one another, to and fro.
func TestPendingOfSeveralCopies(t *testing.T) {
	s := begin(t, 3, 1)
	tell(t, s,
		op.Operation{Name: named(2, 2), Counter: 4, Rune: 'd', Target: mark(3, 3), Clock: op.Clock{0, 1, 2}},
		op.Operation{Name: named(3, 2), Counter: 3, Rune: 'c', Target: mark(2, 2), Clock: op.Clock{0, 1, 1}},
		op.Operation{Name: named(2, 1), Counter: 2, Rune: 'b', Target: mark(1, 3), Clock: op.Clock{0, 0, 1}},
		op.Operation{Name: named(3, 4), Counter: 9, Kind: op.Delete, Target: mark(1, 3), Clock: op.Clock{0, 0, 3}},
	)
	if s.Pending() != 4 || s.Text() != "" {
		t.Fatalf("P10: %d pending, %q", s.Pending(), s.Text())
	}
	tell(t, s, op.Operation{Name: named(3, 1), Counter: 1, Rune: 'a'})
	if s.Pending() != 1 || s.Text() != "abcd" || s.clock != (op.Clock{0, 2, 2}) || s.greatest != 4 {
		t.Errorf("P10: %d pending, %q, %v, greatest %d", s.Pending(), s.Text(), s.clock, s.greatest)
	}
}

// TestPendingHasNoCounter: what waits was not applied, so its counter is not yet seen.
func TestPendingHasNoCounter(t *testing.T) {
	s := begin(t, 2, 1)
	tell(t, s, op.Operation{Name: named(2, 2), Counter: api.MaxCounter, Rune: 'w', Clock: op.Clock{0, 1}})
	if e := s.Insert(0, 'a'); e != api.OK || s.greatest != 1 {
		t.Errorf("P4: %d, greatest %d", e, s.greatest)
	}
	tell(t, s, op.Operation{Name: named(2, 1), Counter: 1, Rune: 'v'})
	if e, f := s.Insert(0, 'b'), s.Delete(0); e != api.ErrFull || f != api.ErrFull || s.Text() != "wva" {
		t.Errorf("P4, P5: the greatest counter was told: %d, %d, %q", e, f, s.Text())
	}
}

// TestWritingAppliesNothingElse: only behind what a batch applies is it asked what waits.
func TestWritingAppliesNothingElse(t *testing.T) {
	s := begin(t, 2, 1)
	tell(t, s, op.Operation{Name: named(2, 1), Counter: 2, Rune: 'w', Target: mark(1, 1), Clock: op.Clock{1, 0}})
	s.Insert(0, 'a')
	s.Insert(1, 'b')
	if s.Pending() != 1 || s.Text() != "ab" {
		t.Fatalf("P4: %d pending, %q", s.Pending(), s.Text())
	}
	tell(t, s, op.Operation{Name: named(1, 1), Counter: 1, Rune: 'a'})
	tell(t, s, op.Operation{Name: named(2, 3), Counter: 9, Rune: 'c', Clock: op.Clock{0, 2}})
	if s.Pending() != 2 || s.Text() != "ab" {
		t.Fatalf("P10: nothing was applied, but %d pending, %q", s.Pending(), s.Text())
	}
	tell(t, s, op.Operation{Name: named(1, 3), Counter: 3, Rune: 'd', Target: mark(2, 1), Clock: op.Clock{2, 0}})
	if s.Pending() != 1 || s.Text() != "awbd" || s.clock != (op.Clock{3, 1}) {
		t.Errorf("P10: %d pending, %q, %v", s.Pending(), s.Text(), s.clock)
	}
}

// TestForgedInOwnName: an operation that says it is the copy's own is taken like any other; one that the copy has overtaken is never applied.
func TestForgedInOwnName(t *testing.T) {
	s := begin(t, 2, 1)
	tell(t, s, op.Operation{Name: named(1, 1), Counter: 5, Rune: 'f'})
	if s.Text() != "f" || s.clock != (op.Clock{1}) {
		t.Fatalf("P10: %q, %v", s.Text(), s.clock)
	}
	tell(t, s, op.Operation{Name: named(1, 2), Counter: 9, Rune: 'g', Target: mark(8, 2), Clock: op.Clock{1}})
	s.Insert(1, 'a')
	if o := s.applied[named(1, 2)]; o.Counter != 6 || o.Rune != 'a' || s.Pending() != 1 {
		t.Fatalf("P4: made %+v, %d pending", o, s.Pending())
	}
	tell(t, s, op.Operation{Name: named(2, 1), Counter: 8, Rune: 'h'})
	if s.Text() != "hfa" || s.Pending() != 1 || s.clock != (op.Clock{2, 1}) {
		t.Errorf("P10: %q, %d pending, %v", s.Text(), s.Pending(), s.clock)
	}
}

// TestAllNumbers: of each copy the numbers go to MaxOps, and the last is applied like the first.
func TestAllNumbers(t *testing.T) {
	s := begin(t, 2, 1)
	for from := 1; from <= api.MaxOps; from += 10 {
		tell(t, s, chain(from, from+9)...)
	}
	if s.Len() != api.MaxOps || s.clock != (op.Clock{0, api.MaxOps}) || s.Pending() != 0 {
		t.Fatalf("P10: %d runes, %v, %d pending", s.Len(), s.clock, s.Pending())
	}
	if e := s.Insert(100, 'x'); e != api.OK {
		t.Errorf("P4: another copy has all its numbers: %d", e)
	}
	own := begin(t, 2, 2)
	for from := 1; from <= api.MaxOps; from += 10 {
		tell(t, own, chain(from, from+9)...)
	}
	if e, f := own.Insert(0, 'x'), own.Delete(0); e != api.ErrFull || f != api.ErrFull {
		t.Errorf("P4, P5: all its numbers are told: %d, %d", e, f)
	}
}

// TestTakenIsToldOn: what a batch brought is answered to a digest like what was written here.
func TestTakenIsToldOn(t *testing.T) {
	from := ofThree(t)
	s := begin(t, 3, 1)
	answer, _ := from.Handle(s.Tick())
	for i := len(answer) - 1; i >= 0; i-- {
		s.Handle(answer[i])
	}
	if s.Text() != "bc" || s.clock != from.clock || s.Pending() != 0 || s.greatest != from.greatest || !reflect.DeepEqual(s.applied, from.applied) || !reflect.DeepEqual(s.line, from.line) {
		t.Fatalf("P12: %q, %v, %d pending", s.Text(), s.clock, s.Pending())
	}
	for _, clock := range []op.Clock{{}, {1, 1, 1}, {0, 3, 1}, {1, 3, 2}} {
		want, _ := from.Handle(frame.WriteDigest(3, 3, clock))
		if got, e := s.Handle(frame.WriteDigest(3, 3, clock)); e != api.OK || !reflect.DeepEqual(got, want) {
			t.Errorf("P10: %v: %x, want %x", clock, got, want)
		}
	}
}
