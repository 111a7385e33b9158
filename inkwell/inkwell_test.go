package inkwell

import (
	"math/rand"
	"slices"
	"strings"
	"sync"
	"testing"
	"time"
	"unicode/utf8"

	"inkwell/api"
)

const (
	least    = -1 << 63
	greatest = 1<<63 - 1
)

func begin(t *testing.T, copies, self int) *Copy {
	t.Helper()
	c, e := New(api.Config{Copies: copies, Self: self})
	if c == nil || e != api.OK {
		t.Fatalf("P3: New(%d, %d) = %v, %d", copies, self, c, e)
	}
	return c
}

// written gives copy 1 of 2 with a text that was appended rune by rune.
func written(t *testing.T, text string) *Copy {
	t.Helper()
	c := begin(t, 2, 1)
	for i, r := range []rune(text) {
		if e := c.Insert(i, r); e != api.OK {
			t.Fatalf("P4: Insert(%d, %q) = %d", i, r, e)
		}
	}
	return c
}

func stands(t *testing.T, c *Copy, text string, clock ...int) {
	t.Helper()
	if s := c.Text(); s != text {
		t.Errorf("P6: text %q, want %q", s, text)
	}
	if n := c.Len(); n != utf8.RuneCountInString(text) {
		t.Errorf("P6: length %d of %q", n, text)
	}
	if l := c.Clock(); !slices.Equal(l, clock) {
		t.Errorf("P6: clock %v, want %v", l, clock)
	}
	if p := c.Pending(); p != 0 {
		t.Errorf("P6: %d pending", p)
	}
}

func TestErrorsAndBounds(t *testing.T) {
	if got, want := []api.Errno{api.OK, api.ErrCopies, api.ErrSelf, api.ErrPlace, api.ErrRune, api.ErrFull, api.ErrFrame}, []api.Errno{0, 1, 2, 3, 4, 5, 6}; !slices.Equal(got, want) {
		t.Errorf("Words: errors %v", got)
	}
	if got, want := []int64{api.MaxCopies, api.MaxOps, api.MaxPending, api.MaxDatagram, api.MaxCounter}, []int64{8, 100, 16, 120, 1 << 40}; !slices.Equal(got, want) {
		t.Errorf("Words: bounds %v", got)
	}
}

func TestExamples(t *testing.T) {
	c := begin(t, 2, 1)
	if e, f, g := c.Insert(0, 'a'), c.Insert(1, 'c'), c.Insert(1, 'b'); e != api.OK || f != api.OK || g != api.OK {
		t.Errorf("Examples: %d, %d, %d", e, f, g)
	}
	stands(t, c, "abc", 3, 0)
	if e := c.Delete(0); e != api.OK {
		t.Errorf("Examples: Delete(0) = %d", e)
	}
	stands(t, c, "bc", 4, 0)
	if e, f := c.Insert(3, 'x'), c.Delete(2); e != api.ErrPlace || f != api.ErrPlace {
		t.Errorf("Examples: %d, %d", e, f)
	}
	stands(t, c, "bc", 4, 0)
}

func TestNewOfEveryConfig(t *testing.T) {
	numbers := []int{least, -1, 0, 1, 2, 3, 4, 5, 6, 7, 8, 9, 1 << 32, 1<<32 + 1, greatest}
	for _, copies := range numbers {
		for _, self := range numbers {
			want := api.OK
			if copies < 1 || copies > 8 {
				want = api.ErrCopies
			} else if self < 1 || self > copies {
				want = api.ErrSelf
			}
			c, e := New(api.Config{Copies: copies, Self: self})
			if e != want || (c == nil) != (want != api.OK) {
				t.Errorf("P3: New(%d, %d) = %v, %d, want %d", copies, self, c, e, want)
			}
			if c != nil {
				stands(t, c, "", make([]int, copies)...)
			}
		}
	}
}

// TestOwnNumberIsCounted: each copy counts what it writes as its own.
func TestOwnNumberIsCounted(t *testing.T) {
	for self := 1; self <= api.MaxCopies; self++ {
		c := begin(t, api.MaxCopies, self)
		c.Insert(0, 'x')
		c.Delete(0)
		clock := make([]int, api.MaxCopies)
		clock[self-1] = 2
		stands(t, c, "", clock...)
	}
}

func TestInsertPlaces(t *testing.T) {
	for _, x := range []struct {
		place int
		e     api.Errno
		text  string
	}{
		{0, api.OK, "!aßc"}, {1, api.OK, "a!ßc"}, {2, api.OK, "aß!c"}, {3, api.OK, "aßc!"},
		{4, api.ErrPlace, "aßc"}, {-1, api.ErrPlace, "aßc"}, {least, api.ErrPlace, "aßc"}, {greatest, api.ErrPlace, "aßc"},
	} {
		c := written(t, "aßc")
		if e := c.Insert(x.place, '!'); e != x.e || c.Text() != x.text {
			t.Errorf("P4: Insert(%d) = %d, %q, want %d, %q", x.place, e, c.Text(), x.e, x.text)
		}
	}
}

func TestInsertRunes(t *testing.T) {
	for _, r := range []rune{0, 1, 'a', 0x7f, 0x80, 0x7ff, 0x800, 0xd7ff, 0xe000, 0xfffd, 0xffff, 0x10000, 0x10ffff} {
		c := begin(t, 1, 1)
		if e := c.Insert(0, r); e != api.OK {
			t.Errorf("P4: Insert of %x = %d", r, e)
		}
		stands(t, c, string(r), 1)
	}
	for _, r := range []rune{-1 << 31, -1, 0xd800, 0xdbff, 0xdc00, 0xdfff, 0x110000, 1<<31 - 1} {
		c := begin(t, 1, 1)
		if e := c.Insert(0, r); e != api.ErrRune {
			t.Errorf("P4: Insert of %x = %d", r, e)
		}
		stands(t, c, "", 0)
	}
}

func TestDeletePlaces(t *testing.T) {
	for _, x := range []struct {
		place int
		e     api.Errno
		text  string
	}{
		{0, api.OK, "ßc"}, {1, api.OK, "ac"}, {2, api.OK, "aß"},
		{3, api.ErrPlace, "aßc"}, {-1, api.ErrPlace, "aßc"}, {least, api.ErrPlace, "aßc"}, {greatest, api.ErrPlace, "aßc"},
	} {
		c := written(t, "aßc")
		if e := c.Delete(x.place); e != x.e || c.Text() != x.text {
			t.Errorf("P5: Delete(%d) = %d, %q, want %d, %q", x.place, e, c.Text(), x.e, x.text)
		}
	}
	c := begin(t, 1, 1)
	if e := c.Delete(0); e != api.ErrPlace {
		t.Errorf("P5: Delete(0) of nothing = %d", e)
	}
}

// TestDeletedRunesHaveNoPlace: places count the text alone, not the line.
func TestDeletedRunesHaveNoPlace(t *testing.T) {
	c := written(t, "abcd")
	c.Delete(1)
	c.Delete(1)
	c.Insert(1, 'x')
	c.Insert(2, 'y')
	c.Delete(0)
	c.Insert(0, 'z')
	stands(t, c, "zxyd", 10, 0)
	if e := c.Insert(5, '!'); e != api.ErrPlace {
		t.Errorf("P4: Insert(5) = %d", e)
	}
}

// TestFull: the hundredth operation is the last, and a full copy still says what else is wrong.
func TestFull(t *testing.T) {
	c := begin(t, 2, 2)
	for i := range api.MaxOps / 2 {
		if e, f := c.Insert(0, 'x'), c.Insert(1, 'y'); e != api.OK || f != api.OK {
			t.Fatalf("P4: operation %d: %d, %d", 2*i, e, f)
		}
	}
	for _, x := range []struct {
		got, want api.Errno
	}{
		{c.Insert(0, 'z'), api.ErrFull}, {c.Delete(0), api.ErrFull}, {c.Delete(99), api.ErrFull}, {c.Insert(100, 'z'), api.ErrFull},
		{c.Insert(101, -1), api.ErrPlace}, {c.Insert(100, -1), api.ErrRune}, {c.Insert(-1, 'z'), api.ErrPlace}, {c.Delete(100), api.ErrPlace}, {c.Delete(-1), api.ErrPlace},
	} {
		if x.got != x.want {
			t.Errorf("P1, P4, P5: a full copy: %d, want %d", x.got, x.want)
		}
	}
	stands(t, c, strings.Repeat("xy", 50), 0, 100)
}

func TestTheFirstErrorIsAnswered(t *testing.T) {
	c := begin(t, 1, 1)
	if e := c.Insert(1, -1); e != api.ErrPlace {
		t.Errorf("P1: place and rune: %d", e)
	}
	if x, e := New(api.Config{Copies: 0, Self: -1}); x != nil || e != api.ErrCopies {
		t.Errorf("P1: copies and self: %v, %d", x, e)
	}
}

// TestLikeAList: one copy alone is a plain text.
func TestLikeAList(t *testing.T) {
	r := rand.New(rand.NewSource(7))
	for range 100 {
		c := begin(t, 1, 1)
		var text []rune
		for n := range api.MaxOps {
			place := r.Intn(len(text) + 1)
			if r.Intn(5) < 2 && place < len(text) {
				text = slices.Delete(text, place, place+1)
				c.Delete(place)
			} else {
				x := rune(r.Intn(0xd800))
				text = slices.Insert(text, place, x)
				c.Insert(place, x)
			}
			if c.Text() != string(text) || c.Len() != len(text) || c.Clock()[0] != n+1 {
				t.Fatalf("P4, P5: %q, want %q", c.Text(), string(text))
			}
		}
	}
}

func TestClocksAreTheCallersOwn(t *testing.T) {
	c := written(t, "ab")
	l, m := c.Clock(), c.Clock()
	l = l[:cap(l)]
	for i := range l {
		l[i] = 77
	}
	if !slices.Equal(m, []int{2, 0}) {
		t.Errorf("P2: two clocks share room: %v", m)
	}
	stands(t, c, "ab", 2, 0)
	c.Insert(0, 'x')
	if !slices.Equal(m, []int{2, 0}) {
		t.Errorf("P2: a clock that was given went on: %v", m)
	}
}

func TestCopiesKnowNothingOfOneAnother(t *testing.T) {
	a, b := begin(t, 2, 1), begin(t, 2, 2)
	same := begin(t, 2, 1)
	a.Insert(0, 'a')
	b.Insert(0, 'b')
	b.Insert(0, 'c')
	stands(t, a, "a", 1, 0)
	stands(t, b, "cb", 0, 2)
	stands(t, same, "", 0, 0)
}

func TestAskingAgainAnswersTheSame(t *testing.T) {
	c := written(t, "abc")
	for range 3 {
		stands(t, c, "abc", 3, 0)
	}
}

// calls has each call that works on the copy's state.
func calls(c *Copy) map[string]func() {
	return map[string]func(){
		"Insert":         func() { c.Insert(0, 'x') },
		"Insert refused": func() { c.Insert(-1, 'x') },
		"Delete":         func() { c.Delete(0) },
		"Delete refused": func() { c.Delete(-1) },
		"Text":           func() { c.Text() },
		"Len":            func() { c.Len() },
		"Clock":          func() { c.Clock() },
		"Pending":        func() { c.Pending() },
		"Tick":           func() { c.Tick() },
		"Handle":         func() { c.Handle(framed("D\x02\x00\x00")) },
		"Handle batch":   func() { c.Handle(framed("B\x01" + euroBytes)) },
		"Handle refused": func() { c.Handle("no frame") },
	}
}

// TestCallsTakeTheMutex: a call waits while another works, and gives the mutex back.
func TestCallsTakeTheMutex(t *testing.T) {
	c := written(t, "abc")
	for name, call := range calls(c) {
		done := make(chan struct{})
		c.mutex.Lock()
		go func() {
			call()
			close(done)
		}()
		select {
		case <-done:
			t.Errorf("P2: %s did not wait for the mutex", name)
		case <-time.After(20 * time.Millisecond):
		}
		c.mutex.Unlock()
		<-done
		if !c.mutex.TryLock() {
			t.Fatalf("P2: %s kept the mutex", name)
		}
		c.mutex.Unlock()
	}
}

// TestTogether: what several goroutines write is as if written one after the other.
func TestTogether(t *testing.T) {
	c := begin(t, 3, 2)
	var all sync.WaitGroup
	for i := range 10 {
		all.Go(func() {
			for range 5 {
				if e := c.Insert(0, rune('a'+i)); e != api.OK {
					t.Errorf("P2: Insert = %d", e)
				}
				// Each goroutine deletes only after it has inserted, so a rune is always there.
				if e := c.Delete(0); e != api.OK {
					t.Errorf("P2: Delete = %d", e)
				}
				c.Text()
				c.Len()
				c.Clock()
				c.Pending()
				c.Handle(c.Tick())
			}
		})
	}
	all.Wait()
	stands(t, c, "", 0, 100, 0)
	if e := c.Insert(0, 'x'); e != api.ErrFull {
		t.Errorf("P2: Insert behind the hundredth = %d", e)
	}
}

// TestTogetherAtTheBound: of more inserts than there may be, just MaxOps are taken.
func TestTogetherAtTheBound(t *testing.T) {
	c := begin(t, 1, 1)
	var all sync.WaitGroup
	taken := make([]int, 8)
	for i := range taken {
		all.Go(func() {
			for range 20 {
				if c.Insert(0, 'x') == api.OK {
					taken[i]++
				}
			}
		})
	}
	all.Wait()
	sum := 0
	for _, n := range taken {
		sum += n
	}
	if sum != api.MaxOps {
		t.Errorf("P2: %d inserts were taken", sum)
	}
	stands(t, c, strings.Repeat("x", api.MaxOps), api.MaxOps)
}
