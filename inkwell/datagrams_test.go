package inkwell

import (
	"hash/fnv"
	"math/rand"
	"slices"
	"strings"
	"sync"
	"testing"

	"inkwell/api"
)

// framed puts the sum behind bytes, by the library's own way of it.
func framed(bytes string) string {
	h := fnv.New32a()
	h.Write([]byte(bytes))
	return string(h.Sum([]byte(bytes)))
}

func TestTick(t *testing.T) {
	c := begin(t, 2, 1)
	if s := c.Tick(); s != framed("D\x01\x00\x00") {
		t.Errorf("Examples: the digest of a new copy: %x", s)
	}
	c.Insert(0, 'a')
	c.Delete(0)
	if s, again := c.Tick(), c.Tick(); s != framed("D\x01\x02\x00") || again != s {
		t.Errorf("P9: %x, and again %x", s, again)
	}
	stands(t, c, "", 2, 0)
	c = begin(t, 8, 8)
	for range api.MaxOps {
		c.Insert(0, 'x')
	}
	if s := c.Tick(); s != framed("D\x08\x00\x00\x00\x00\x00\x00\x00\x64") {
		t.Errorf("P9: a full copy: %x", s)
	}
}

// TestDigestIsAnswered holds answers against bytes that were written out by hand.
func TestDigestIsAnswered(t *testing.T) {
	c := begin(t, 2, 2)
	c.Insert(0, 'a')
	c.Insert(0, '€')
	c.Delete(1)
	a, euro, gone := "\x02\x01\x01\x00\x00\x00a\x00\x00", "\x02\x02\x02\x00\x00\x00\xac\x41\x00\x01", "\x02\x03\x03\x01\x01\x02\x00\x02"
	for _, x := range []struct{ digest, answer string }{
		{"D\x01\x00\x00", "B\x03" + a + euro + gone},
		{"D\x02\x00\x00", "B\x03" + a + euro + gone},
		{"D\x01\x64\x01", "B\x02" + euro + gone},
		{"D\x01\x03\x02", "B\x01" + gone},
		{"D\x01\x00\x03", ""},
		{"D\x01\x64\x64", ""},
	} {
		var want []string
		if x.answer != "" {
			want = []string{framed(x.answer)}
		}
		if l, e := c.Handle(framed(x.digest)); e != api.OK || !slices.Equal(l, want) {
			t.Errorf("P10: %x is answered %x, %d, want %x", x.digest, l, e, want)
		}
	}
	stands(t, c, "€", 0, 3)
	if l, e := begin(t, 2, 1).Handle(framed("D\x02\x00\x00")); len(l) != 0 || e != api.OK {
		t.Errorf("P10: a new copy tells %x, %d", l, e)
	}
}

// TestOwnDigestIsAnsweredByNothing: a copy has nothing that its own digest does not count.
func TestOwnDigestIsAnsweredByNothing(t *testing.T) {
	c := written(t, "abc")
	if l, e := c.Handle(c.Tick()); len(l) != 0 || e != api.OK {
		t.Errorf("P10: %x, %d", l, e)
	}
}

func TestAnswersHaveRoom(t *testing.T) {
	c := written(t, strings.Repeat("x", 100))
	l, e := c.Handle(framed("D\x02\x00\x00"))
	count := 0
	for i, s := range l {
		if s[0] != 'B' || s != framed(s[:len(s)-4]) || len(s) > api.MaxDatagram {
			t.Errorf("P10: datagram %d: %x", i, s)
		}
		// An operation here has nine bytes: one more would have had room below 112.
		if i < len(l)-1 && len(s) < 112 {
			t.Errorf("P10: datagram %d of %d has only %d bytes", i, len(l), len(s))
		}
		count += int(s[1])
	}
	if e != api.OK || len(l) != 9 || count != 100 {
		t.Errorf("P10: %d datagrams with %d operations, %d", len(l), count, e)
	}
}

func TestNoFrame(t *testing.T) {
	c := written(t, "ab")
	digest := framed("D\x02\x00\x00")
	batch := framed("B\x01\x02\x01\x01\x00\x00\x00x\x00\x00")
	if l, e := begin(t, 2, 1).Handle(batch); len(l) != 0 || e != api.OK {
		t.Fatalf("P10: %x is answered %x, %d", batch, l, e)
	}
	for _, s := range []string{
		"", "D", "B", "\x00", "\x81\x1c\x9d\xc5", framed("D"), framed("B"), framed("B\x00"), framed("B\x01"),
		digest[1:], digest[:7], digest + "\x00", digest + digest, batch + digest, "B" + digest[1:], "D" + batch[1:],
		framed("D\x02\x00"), framed("D\x02\x00\x00\x00"), framed("D\x00\x00\x00"), framed("D\x03\x00\x00"), framed("D\x02\x00\x65"), framed("D\x02\x65\x00"),
		framed("D\x82\x00\x00\x00"), framed("D\x02\x80\x00\x00"), framed("D\x02\x00\x80"), framed("D\x02\x00\x80\x80\x80\x80\x80\x80\x80\x80\x80\x01"),
		framed("B\x01\x03\x01\x01\x00\x00\x00x\x00\x00"), framed("B\x01\x02\x01\x01\x02\x00\x00x\x00\x00"), framed("B\x01\x02\x01\x01\x01\x00\x00\x00\x00"), framed("B\x02\x02\x01\x01\x00\x00\x00x\x00\x00"),
		strings.Repeat("D", 121), strings.Repeat("\x80", 120), strings.Repeat("\xff", 1<<16), framed("B\x01" + strings.Repeat("\x80", 1<<16)),
	} {
		if l, e := c.Handle(s); l != nil || e != api.ErrFrame {
			t.Errorf("P10: %x is answered %x, %d", s, l, e)
		}
	}
	stands(t, c, "ab", 2, 0)
	for at := range 4 {
		spoilt := []byte(digest)
		spoilt[len(spoilt)-1-at]++
		if l, e := c.Handle(string(spoilt)); l != nil || e != api.ErrFrame {
			t.Errorf("P8: a wrong sum: %x is answered %x, %d", spoilt, l, e)
		}
	}
}

// TestAnyBytes: whatever comes, Handle ends without a panic, and an error has no answer beside it.
func TestAnyBytes(t *testing.T) {
	r := rand.New(rand.NewSource(9))
	c := written(t, "any bytes")
	for range 50000 {
		bytes := make([]byte, r.Intn(125))
		r.Read(bytes)
		if len(bytes) > 0 {
			bytes[0] = "DBx"[r.Intn(3)]
			for i := range bytes[1:] {
				bytes[1+i] >>= r.Intn(8)
			}
		}
		s := framed(string(bytes))
		if l, e := c.Handle(s); e != api.OK && (e != api.ErrFrame || l != nil) || len(s) > api.MaxDatagram && e == api.OK {
			t.Fatalf("P1: %x is answered %x, %d", s, l, e)
		}
	}
}

// TestAnswersAreTheCallersOwn writes over a list and its spare room.
func TestAnswersAreTheCallersOwn(t *testing.T) {
	c := written(t, strings.Repeat("x", 70))
	a, _ := c.Handle(framed("D\x02\x00\x00"))
	b, _ := c.Handle(framed("D\x02\x00\x00"))
	want := slices.Clone(a)
	a = a[:cap(a)]
	for i := range a {
		if i >= len(want) && a[i] != "" {
			t.Errorf("P2: the spare room has %x", a[i])
		}
		a[i] = "over"
	}
	again, _ := c.Handle(framed("D\x02\x00\x00"))
	if len(want) < 2 || !slices.Equal(b, want) || !slices.Equal(again, want) {
		t.Errorf("P2: %x and %x, want %x", b, again, want)
	}
	for i, s := range b[:cap(b)][len(b):] {
		if s != "" {
			t.Errorf("P2: two lists share the room %d", i)
		}
	}
}

// TestToldTogether: an answer given while others write is that of some moment: the first so many operations.
func TestToldTogether(t *testing.T) {
	c := begin(t, 2, 1)
	var all sync.WaitGroup
	for range 4 {
		all.Go(func() {
			for range 25 {
				c.Insert(0, 'x')
			}
		})
		all.Go(func() {
			for range 25 {
				digest := c.Tick()
				l, e := c.Handle(framed("D\x02\x00\x00"))
				count := 0
				for _, s := range l {
					count += int(s[1])
				}
				if e != api.OK || count < int(digest[2]) || count > api.MaxOps {
					t.Errorf("P2: %d operations behind the digest %x, %d", count, digest, e)
				}
			}
		})
	}
	all.Wait()
	stands(t, c, strings.Repeat("x", 100), 100, 0)
}
