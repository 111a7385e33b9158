package inkwell

import (
	"math/rand"
	"slices"
	"strings"
	"sync"
	"testing"

	"inkwell/api"
)

// net is copies of one text, and the datagrams that are on the way.
type net struct {
	*rand.Rand
	t      *testing.T
	copies []*Copy
	air    []string
	next   rune // each insert has a rune of its own, so that it is told from all others
}

func newNet(t *testing.T, r *rand.Rand, copies int) *net {
	n := &net{Rand: r, t: t, next: 0x4e00}
	for i := range copies {
		n.copies = append(n.copies, begin(t, copies, i+1))
	}
	return n
}

// write has a copy insert or delete; its own text changes at just that place.
func (n *net) write(c *Copy) {
	text := []rune(c.Text())
	place := n.Intn(len(text) + 1)
	var e api.Errno
	want := text
	if n.Intn(3) == 0 && place < len(text) {
		e = c.Delete(place)
		want = slices.Delete(slices.Clone(text), place, place+1)
	} else {
		e = c.Insert(place, n.next)
		want = slices.Insert(slices.Clone(text), place, n.next)
		n.next++
	}
	if e == api.ErrFull {
		want = text
	} else if e != api.OK {
		n.t.Fatalf("P4, P5: %d", e)
	}
	if c.Text() != string(want) {
		n.t.Fatalf("P12: %q, want %q", c.Text(), string(want))
	}
}

// carry brings a datagram to a copy, which may put answers into the air.
func (n *net) carry(c *Copy, datagram string) {
	out, e := c.Handle(datagram)
	if e != api.OK || datagram[0] == 'B' && len(out) != 0 {
		n.t.Fatalf("P10: %x is answered %x, %d", datagram, out, e)
	}
	n.air = append(n.air, out...)
}

// spoil brings a copy bytes of which no frame came.
func (n *net) spoil(c *Copy, datagram string) {
	bytes := []byte(datagram)
	switch n.Intn(4) {
	case 0:
		bytes = bytes[:n.Intn(len(bytes))]
	case 1:
		bytes = append(bytes, byte(n.Intn(256)))
	case 2:
		bytes[n.Intn(len(bytes))] ^= byte(1 << n.Intn(8))
	case 3:
		bytes = append(bytes[len(bytes)/2:], bytes[:len(bytes)/2]...)
	}
	text, clock, pending := c.Text(), c.Clock(), c.Pending()
	if out, e := c.Handle(string(bytes)); out != nil || e != api.ErrFrame {
		n.t.Fatalf("P8: spoilt: %x is answered %x, %d", bytes, out, e)
	}
	if c.Text() != text || !slices.Equal(c.Clock(), clock) || c.Pending() != pending {
		n.t.Fatalf("P1: what came spoilt changed the copy")
	}
}

// step does one thing, of which much goes wrong: what is in the air is lost, comes twice, comes late, comes spoilt.
func (n *net) step() {
	c := n.copies[n.Intn(len(n.copies))]
	if len(n.air) == 0 || n.Intn(4) == 0 {
		n.air = append(n.air, c.Tick())
		return
	}
	at := n.Intn(len(n.air))
	switch n.Intn(6) {
	case 0, 1:
		n.write(c)
	case 2:
		n.spoil(c, n.air[at])
	case 3:
		n.air = slices.Delete(n.air, at, at+1)
	default:
		n.carry(c, n.air[at])
	}
}

// holds looks at all pairs of copies: one clock, one text; and runes that both have are in one order.
func (n *net) holds() {
	for i, a := range n.copies {
		for _, b := range n.copies[:i] {
			x, y := a.Text(), b.Text()
			if slices.Equal(a.Clock(), b.Clock()) && x != y {
				n.t.Fatalf("P12: one clock %v, but %q and %q", a.Clock(), x, y)
			}
			if both(x, y) != both(y, x) {
				n.t.Fatalf("P12: two orders: %q and %q", both(x, y), both(y, x))
			}
		}
	}
}

// both is what of x is in y too.
func both(x, y string) string {
	return strings.Map(func(r rune) rune {
		if strings.ContainsRune(y, r) {
			return r
		}
		return -1
	}, x)
}

func (n *net) settled() bool {
	for _, c := range n.copies {
		if !slices.Equal(c.Clock(), n.copies[0].Clock()) || c.Pending() != 0 || c.Text() != n.copies[0].Text() {
			return false
		}
	}
	return true
}

// settle takes each copy's digest to each other, and all answers back, again and again.
func (n *net) settle(most int) {
	for range most {
		if n.settled() {
			return
		}
		for _, i := range n.Perm(len(n.copies)) {
			for _, j := range n.Perm(len(n.copies)) {
				if i == j {
					continue
				}
				n.air = nil
				n.carry(n.copies[j], n.copies[i].Tick())
				for _, at := range n.Perm(len(n.air)) {
					n.carry(n.copies[i], n.air[at])
				}
			}
		}
	}
	if !n.settled() {
		for i, c := range n.copies {
			n.t.Errorf("P12: copy %d: %v, %d pending, %q", i+1, c.Clock(), c.Pending(), c.Text())
		}
		n.t.FailNow()
	}
}

// TestBadNet: whatever happens to the datagrams, the texts never contradict one another, and in the end there is one.
func TestBadNet(t *testing.T) {
	r := rand.New(rand.NewSource(21))
	waited, runes := 0, 0
	for round := range 60 {
		n := newNet(t, r, 2+round%7)
		for range 400 {
			n.step()
			n.holds()
			for _, c := range n.copies {
				waited = max(waited, c.Pending())
			}
		}
		n.settle(100)
		n.holds()
		runes += n.copies[0].Len()
	}
	if waited < 3 || runes < 1000 {
		t.Errorf("at most %d waited, %d runes in all: this tells little", waited, runes)
	}
}

// TestLongSilence: copies that wrote all they could without a word between come to one text too.
func TestLongSilence(t *testing.T) {
	n := newNet(t, rand.New(rand.NewSource(22)), api.MaxCopies)
	for _, c := range n.copies {
		for range api.MaxOps {
			n.write(c)
		}
	}
	n.settle(100)
	for i, count := range n.copies[3].Clock() {
		if count != api.MaxOps {
			t.Errorf("P12: %d operations of copy %d", count, i+1)
		}
	}
}

// pingPong gives two copies of four that have written in turn, each knowing all that the other wrote.
func pingPong(n *net) {
	for range api.MaxOps {
		for i := range 2 {
			n.write(n.copies[i])
			n.air = nil
			n.carry(n.copies[i], n.copies[1-i].Tick())
			for _, s := range n.air {
				n.carry(n.copies[1-i], s)
			}
		}
	}
	n.air = nil
}

// TestMoreThanMayWait: where far more than MaxPending are not ready, each answer still brings the copy on.
func TestMoreThanMayWait(t *testing.T) {
	n := newNet(t, rand.New(rand.NewSource(23)), 4)
	pingPong(n)
	late := n.copies[2]
	for before := -1; !slices.Equal(late.Clock(), n.copies[0].Clock()); {
		known := late.Clock()[0] + late.Clock()[1]
		if known <= before {
			t.Fatalf("P12: it stays at %v, %d pending", late.Clock(), late.Pending())
		}
		before = known
		answer, _ := n.copies[0].Handle(late.Tick())
		for _, s := range answer {
			n.carry(late, s)
			if late.Pending() > api.MaxPending {
				t.Fatalf("P10: %d pending", late.Pending())
			}
		}
		n.holds()
	}
	n.settle(100)
}

// TestBackwards: batches that come last first, and then once more.
func TestBackwards(t *testing.T) {
	n := newNet(t, rand.New(rand.NewSource(24)), 4)
	pingPong(n)
	late := n.copies[3]
	most := 0
	for range 200 {
		answer, _ := n.copies[1].Handle(late.Tick())
		slices.Reverse(answer)
		for _, s := range append(answer, answer...) {
			n.carry(late, s)
			most = max(most, late.Pending())
		}
		n.holds()
	}
	if !slices.Equal(late.Clock(), []int{100, 100, 0, 0}) || late.Pending() != 0 || most != api.MaxPending {
		t.Errorf("P12: %v, %d pending, at most %d", late.Clock(), late.Pending(), most)
	}
	n.settle(100)
}

// TestToldByAThird: what was written reaches a copy by another one than its writer.
func TestToldByAThird(t *testing.T) {
	n := newNet(t, rand.New(rand.NewSource(25)), 3)
	a, b, c := n.copies[0], n.copies[1], n.copies[2]
	tell := func(from, to *Copy) {
		answer, _ := from.Handle(to.Tick())
		for _, s := range answer {
			n.carry(to, s)
		}
	}
	a.Insert(0, 'a')
	tell(a, b)
	b.Insert(1, 'b')
	tell(b, c)
	c.Delete(0)
	tell(c, a)
	stands(t, c, "b", 1, 1, 1)
	stands(t, a, "b", 1, 1, 1)
}

// TestConcurrentWriting: words that were written at one time at one place stay whole, in one order everywhere.
func TestConcurrentWriting(t *testing.T) {
	n := newNet(t, rand.New(rand.NewSource(26)), 3)
	for i, word := range []string{"one", "two", "six"} {
		for at, r := range word {
			n.copies[i].Insert(at, r)
		}
	}
	n.settle(100)
	stands(t, n.copies[0], "sixtwoone", 3, 3, 3)
	// Both delete the same rune, and one writes behind it meanwhile.
	n.copies[0].Delete(3)
	n.copies[1].Delete(3)
	n.copies[2].Insert(4, 'T')
	n.settle(100)
	stands(t, n.copies[1], "sixTwoone", 4, 4, 4)
}

// TestNetTogether: copies that write, tell and are told in goroutines of their own.
func TestNetTogether(t *testing.T) {
	n := newNet(t, rand.New(rand.NewSource(27)), 4)
	var all sync.WaitGroup
	for i, c := range n.copies {
		for range 2 {
			all.Go(func() {
				for k := range api.MaxOps {
					c.Insert(0, rune(0x4e00+i*api.MaxOps+k))
					for _, other := range n.copies {
						answer, e := other.Handle(c.Tick())
						if e != api.OK {
							t.Errorf("P2: %d", e)
						}
						for _, s := range answer {
							if out, e := c.Handle(s); len(out) != 0 || e != api.OK {
								t.Errorf("P2: %x, %d", out, e)
							}
						}
					}
				}
			})
		}
	}
	all.Wait()
	n.settle(100)
	if clock := n.copies[0].Clock(); !slices.Equal(clock, []int{100, 100, 100, 100}) || n.copies[0].Len() != 400 {
		t.Errorf("P12: %v, %d runes", clock, n.copies[0].Len())
	}
}
