package inkwell

import (
	"strings"
	"testing"

	"inkwell/api"
)

// hands gives a copy bytes with a right sum, which must be a batch.
func hands(t *testing.T, c *Copy, bytes string) {
	t.Helper()
	if l, e := c.Handle(framed(bytes)); len(l) != 0 || e != api.OK {
		t.Errorf("P10: %x is answered %x, %d", bytes, l, e)
	}
}

// waits is stands for a copy with operations that wait.
func waits(t *testing.T, c *Copy, text string, pending int, clock ...int) {
	t.Helper()
	if p := c.Pending(); p != pending {
		t.Errorf("P6: %d pending, want %d", p, pending)
	}
	if s, l := c.Text(), c.Clock(); s != text || len(l) != len(clock) {
		t.Errorf("P6: %q, %v, want %q, %v", s, l, text, clock)
	}
	for i, n := range c.Clock() {
		if n != clock[i] {
			t.Errorf("P6: clock %v, want %v", c.Clock(), clock)
		}
	}
}

// TestExampleOfBatches: the last row of the document's examples.
func TestExampleOfBatches(t *testing.T) {
	a, b := begin(t, 2, 1), begin(t, 2, 2)
	for i, r := range "abc" {
		a.Insert(i, r)
	}
	b.Insert(0, 'x')
	l, _ := a.Handle(b.Tick())
	if len(l) != 1 {
		t.Fatalf("Examples: %x", l)
	}
	if out, e := b.Handle(l[0]); len(out) != 0 || e != api.OK {
		t.Errorf("Examples: a batch is answered %x, %d", out, e)
	}
	stands(t, b, "xabc", 3, 1)
	l, _ = b.Handle(a.Tick())
	for _, s := range l {
		a.Handle(s)
	}
	stands(t, a, "xabc", 3, 1)
}

// Operations of copy 2 of 2, in bytes: €; b behind it; the € deleted.
const (
	euroBytes = "\x02\x01\x01\x00\x00\x00\xac\x41\x00\x00"
	bBytes    = "\x02\x02\x02\x00\x01\x02b\x00\x01"
	goneBytes = "\x02\x03\x03\x01\x01\x02\x00\x02"
)

func TestBatchIsApplied(t *testing.T) {
	c := begin(t, 2, 1)
	hands(t, c, "B\x01"+euroBytes)
	stands(t, c, "€", 0, 1)
	hands(t, c, "B\x02"+bBytes+goneBytes)
	stands(t, c, "b", 0, 3)
	hands(t, c, "B\x03"+goneBytes+bBytes+euroBytes)
	stands(t, c, "b", 0, 3)
	c.Insert(1, 'c')
	stands(t, c, "bc", 1, 3)
	if l, e := c.Handle(framed("D\x02\x00\x01")); e != api.OK || len(l) != 1 || l[0] != framed("B\x03\x01\x01\x04\x00\x02\x02c\x00\x03"+bBytes+goneBytes) {
		t.Errorf("P10: what was told and what was written here: %x, %d", l, e)
	}
}

func TestBatchWaits(t *testing.T) {
	c := begin(t, 2, 1)
	hands(t, c, "B\x01"+goneBytes)
	waits(t, c, "", 1, 0, 0)
	hands(t, c, "B\x02"+bBytes+goneBytes)
	waits(t, c, "", 2, 0, 0)
	if l, e := c.Handle(framed("D\x02\x00\x00")); len(l) != 0 || e != api.OK || c.Tick() != framed("D\x01\x00\x00") {
		t.Errorf("P9, P10: what waits is told: %x, %d, %x", l, e, c.Tick())
	}
	if c.Len() != 0 || c.Delete(0) != api.ErrPlace {
		t.Errorf("P6: what waits is in the text")
	}
	hands(t, c, "B\x01"+euroBytes)
	stands(t, c, "b", 0, 3)
}

// TestGreatestCounterIsTold: the counter of a batch goes on in what is written behind it, up to the last.
func TestGreatestCounterIsTold(t *testing.T) {
	c := begin(t, 2, 1)
	hands(t, c, "B\x01\x02\x01\xff\xff\xff\xff\xff\x1f\x00\x00\x00a\x00\x00")
	if e := c.Insert(1, 'b'); e != api.OK {
		t.Fatalf("P4: the last counter: %d", e)
	}
	if l, _ := c.Handle(framed("D\x02\x00\x01")); len(l) != 1 || l[0] != framed("B\x01\x01\x01\x80\x80\x80\x80\x80\x20\x00\xff\xff\xff\xff\xff\x1f\x02b\x00\x01") {
		t.Errorf("P4: %x", l)
	}
	if e, f, g := c.Insert(0, 'c'), c.Delete(0), c.Delete(2); e != api.ErrFull || f != api.ErrFull || g != api.ErrPlace {
		t.Errorf("P4, P5: no counter left: %d, %d, %d", e, f, g)
	}
	// Others may still be told: their counters need not be the greatest.
	hands(t, c, "B\x01\x02\x02\x80\x80\x80\x80\x80\x20\x00\x00\x00d\x00\x01")
	stands(t, c, "dab", 1, 2)
}

// TestForged: frames that no copy has told are taken as P10 says too.
func TestForged(t *testing.T) {
	far := "\x02\x01\x05\x00\x04\x02z\x00\x00"
	for _, x := range []struct {
		why, bytes string
		text       string
		pending    int
		clock      [2]int
	}{
		{"two with one name, the first ready", "B\x02" + euroBytes + "\x02\x01\x02\x00\x00\x00n\x00\x00", "€", 0, [2]int{0, 1}},
		{"two with one name, the first waits", "B\x02" + far + euroBytes, "", 1, [2]int{0, 0}},
		{"two with one mark", "B\x02" + euroBytes + "\x02\x02\x01\x00\x00\x00n\x00\x01", "€", 1, [2]int{0, 1}},
		{"a delete of what stands ahead in the batch", "B\x02" + euroBytes + "\x02\x02\x02\x01\x01\x02\x00\x01", "", 0, [2]int{0, 2}},
		{"a counter that goes back", "B\x02\x02\x01\x07\x00\x00\x00a\x00\x00\x02\x02\x03\x00\x00\x00b\x00\x01", "ab", 0, [2]int{0, 2}},
		{"in the copy's own name", "B\x01\x01\x01\x07\x00\x00\x00a\x00\x00", "a", 0, [2]int{1, 0}},
		{"a clock that counts what was never made", "B\x01\x02\x01\x01\x00\x00\x00a\x64\x00", "", 1, [2]int{0, 0}},
		{"the last number, ahead of all others", "B\x01\x02\x64\x01\x00\x00\x00a\x00\x63", "", 1, [2]int{0, 0}},
		{"one that waits, and what it waits for", "B\x02\x02\x01\x02\x00\x01\x01b\x00\x00\x01\x01\x01\x00\x00\x00a\x00\x00", "ab", 0, [2]int{1, 1}},
		{"one that waits, again and again", "B\x0c" + strings.Repeat(bBytes, 12), "", 1, [2]int{0, 0}},
	} {
		c := begin(t, 2, 1)
		hands(t, c, x.bytes)
		if c.Text() != x.text || c.Pending() != x.pending || [2]int(c.Clock()) != x.clock {
			t.Errorf("P10, P11: %s: %q, %d pending, %v", x.why, c.Text(), c.Pending(), c.Clock())
		}
	}
}

// TestSpoiltBatchesChangeNothing: no part of a batch that is no frame is taken, not even what stands ahead of the fault.
func TestSpoiltBatchesChangeNothing(t *testing.T) {
	c := begin(t, 2, 1)
	hands(t, c, "B\x01"+goneBytes)
	good := framed("B\x02" + euroBytes + bBytes)
	wrong := []string{
		framed("B\x03" + euroBytes + bBytes), framed("B\x01" + euroBytes + bBytes), framed("B\x02" + euroBytes + bBytes + "\x00"), good + "\x00",
		framed("B\x02" + euroBytes + "\x02\x02\x02\x00\x01\x03b\x00\x01"), framed("B\x02" + euroBytes + "\x02\x02\x02\x00\x02\x02b\x00\x01"),
		framed("B\x02" + euroBytes + "\x02\x02\x02\x01\x00\x00\x00\x01"), framed("B\x02" + euroBytes + "\x02\x02\x02\x00\x01\x02b\x00\x02"),
		framed("B\x0d" + strings.Repeat(bBytes, 13)),
	}
	for at := range good {
		for _, bit := range []byte{1, 16, 128} {
			spoilt := []byte(good)
			spoilt[at] ^= bit
			wrong = append(wrong, string(spoilt), good[:at])
		}
	}
	for _, s := range wrong {
		if l, e := c.Handle(s); l != nil || e != api.ErrFrame {
			t.Errorf("P8: %x is answered %x, %d", s, l, e)
		}
	}
	waits(t, c, "", 1, 0, 0)
	c.Handle(good)
	stands(t, c, "b", 0, 3)
}

// TestAskingChangesNothing: the answers while something waits are the same again and again.
func TestAskingChangesNothing(t *testing.T) {
	c := begin(t, 2, 1)
	hands(t, c, "B\x02"+euroBytes+goneBytes)
	for range 3 {
		waits(t, c, "€", 1, 0, 1)
		if n, s := c.Len(), c.Tick(); n != 1 || s != framed("D\x01\x00\x01") {
			t.Errorf("P2: %d, %x", n, s)
		}
	}
}
