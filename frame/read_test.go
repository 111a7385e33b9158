package frame

import (
	"math/rand"
	"reflect"
	"strings"
	"testing"
	"unicode/utf8"

	"inkwell/api"
	"inkwell/op"
)

func isFrame(copies int, datagram string) bool {
	_, is := Read(copies, datagram)
	return is
}

func varints(numbers ...int64) string { return string(appendVarints(nil, numbers...)) }

func TestContentsAreTold(t *testing.T) {
	if Digest == Batch {
		t.Fatal("Ways: a digest and a batch are one")
	}
	f, is := Read(3, framed("D\x02\x01\x64\x03"))
	if want := (Frame{Content: Digest, Copy: 2, Clock: op.Clock{1, 100, 3}}); !is || !reflect.DeepEqual(f, want) {
		t.Errorf("P7: a digest is read as %+v, %v", f, is)
	}
	f, is = Read(3, framed("B\x03"+firstBytes+wideBytes+goneBytes))
	if want := (Frame{Content: Batch, Operations: []op.Operation{first, wide, gone}}); !is || !reflect.DeepEqual(f, want) {
		t.Errorf("P7: a batch is read as %+v, %v", f, is)
	}
}

// TestNoFrameSaysNothing: beside a false stands an empty frame.
func TestNoFrameSaysNothing(t *testing.T) {
	for _, s := range []string{"", "D", framed("D\x02\x01"), framed("B\x02" + firstBytes), framed("D\x02\x01\x02\x03\x04")} {
		if f, is := Read(3, s); is || !reflect.DeepEqual(f, Frame{}) {
			t.Errorf("P8: %x: %+v, %v", s, f, is)
		}
	}
}

func TestBoundsOfDigests(t *testing.T) {
	for _, x := range []struct {
		copies int
		bytes  string
		is     bool
	}{
		{1, "D\x01\x00", true}, {1, "D\x01\x64", true}, {1, "D\x02\x00", false}, {1, "D\x00\x00", false},
		{2, "D\x01\x00\x00", true}, {2, "D\x02\x64\x64", true}, {2, "D\x03\x00\x00", false}, {2, "D\x00\x00\x00", false},
		{2, "D\x01\x65\x00", false}, {2, "D\x01\x00\x65", false}, {2, "D\x01\x00\x7f", false}, {2, "D\x01\x00\x80\x01", false},
		{2, "D\x01\x00", false}, {2, "D\x01", false}, {2, "D", false}, {2, "D\x01\x00\x00\x00", false},
		{8, "D\x08\x64\x64\x64\x64\x64\x64\x64\x64", true}, {8, "D\x09\x64\x64\x64\x64\x64\x64\x64\x64", false}, {8, "D\x01\x64\x64\x64\x64\x64\x64\x64\x65", false},
		{2, "", false}, {2, "d\x01\x00\x00", false}, {2, "E\x01\x00\x00", false}, {2, "C\x01\x00\x00", false}, {2, "\x00\x01\x00\x00", false}, {2, "\xc4\x01\x00\x00", false},
		{2, "D\x81\x00\x00\x00", false}, {2, "D\x01\x80\x00\x00", false}, {2, "D\x01\x00\x80\x00", false}, {2, "D\x01\x80\x80\x00\x00", false}, {2, "D\x01\x00\x80", false},
	} {
		if is := isFrame(x.copies, framed(x.bytes)); is != x.is {
			t.Errorf("P8: %x to one of %d: %v, want %v", x.bytes, x.copies, is, x.is)
		}
	}
}

// TestBoundsOfOperations changes one number of a good operation of three copies at a time.
func TestBoundsOfOperations(t *testing.T) {
	const origin, number, counter, kind, targetCounter, targetCopy, letter, clock = 0, 1, 2, 3, 4, 5, 6, 7
	insert := []int64{2, 5, 1000, 0, 7, 3, 'x', 9, 4, 100}
	// A delete has no rune; -1 marks what is left out.
	remove := []int64{2, 5, 1000, 1, 7, 3, -1, 9, 4, 100}
	type change struct {
		at    int
		value int64
	}
	for _, x := range []struct {
		why       string
		changes   []change
		ins, dels bool // whether it is a frame with an insert, with a delete
	}{
		{"as it is", nil, true, true},
		{"origin 0", []change{{origin, 0}, {clock, 4}}, false, false},
		{"the first origin", []change{{origin, 1}, {clock, 4}}, true, true},
		{"the last origin", []change{{origin, 3}, {clock + 2, 4}}, true, true},
		{"origin 4", []change{{origin, 4}, {clock, 4}, {clock + 2, 4}}, false, false},
		{"a great origin", []change{{origin, 1 << 62}}, false, false},
		{"number 0", []change{{number, 0}, {clock + 1, 0}}, false, false},
		{"number 1", []change{{number, 1}, {clock + 1, 0}}, true, true},
		{"number 100", []change{{number, 100}, {clock + 1, 99}}, true, true},
		{"number 101", []change{{number, 101}, {clock + 1, 100}}, false, false},
		{"counter 0", []change{{counter, 0}}, false, false},
		{"counter 0, nothing below it", []change{{counter, 0}, {targetCounter, 0}, {targetCopy, 0}}, false, false},
		{"counter 1 and the beginning", []change{{counter, 1}, {targetCounter, 0}, {targetCopy, 0}}, true, false},
		{"counter 1 and a target", []change{{counter, 1}, {targetCounter, 1}}, false, false},
		{"counter 2 and a target", []change{{counter, 2}, {targetCounter, 1}}, true, true},
		{"the greatest counter", []change{{counter, api.MaxCounter}}, true, true},
		{"above the greatest counter", []change{{counter, api.MaxCounter + 1}}, false, false},
		{"far above the greatest counter", []change{{counter, 1<<63 - 1}}, false, false},
		{"kind 2", []change{{kind, 2}}, false, false},
		{"kind 128", []change{{kind, 128}}, false, false},
		{"the beginning", []change{{targetCounter, 0}, {targetCopy, 0}}, true, false},
		{"counter 0 and a copy", []change{{targetCounter, 0}}, false, false},
		{"a counter and copy 0", []change{{targetCopy, 0}}, false, false},
		{"the first target", []change{{targetCounter, 1}, {targetCopy, 1}}, true, true},
		{"the last target", []change{{targetCounter, 999}}, true, true},
		{"a target of its own counter", []change{{targetCounter, 1000}, {targetCopy, 1}}, false, false},
		{"a target above it", []change{{targetCounter, 1001}}, false, false},
		{"the target's copy 4", []change{{targetCopy, 4}}, false, false},
		{"the target's copy 256", []change{{targetCopy, 256 + 1}}, false, false},
		{"a clock that counts it", []change{{clock + 1, 5}}, false, false},
		{"a clock with a gap", []change{{clock + 1, 3}}, false, false},
		{"a clock of nothing else", []change{{clock, 0}, {clock + 2, 0}}, true, true},
		{"101 in a clock", []change{{clock, 101}}, false, false},
		{"101 at the end of a clock", []change{{clock + 2, 101}}, false, false},
	} {
		for _, base := range [][]int64{insert, remove} {
			var bytes string
			for at, value := range base {
				for _, c := range x.changes {
					if c.at == at {
						value = c.value
					}
				}
				if value >= 0 {
					bytes += varints(value)
				}
			}
			want := x.ins
			if base[kind] == 1 {
				want = x.dels
			}
			if is := isFrame(3, framed("B\x01"+bytes)); is != want {
				t.Errorf("P8: %s, kind %d: %v, want %v", x.why, base[kind], is, want)
			}
			// A good operation ahead of it or behind it makes it no better and no worse.
			if isFrame(3, framed("B\x02"+firstBytes+bytes)) != want || isFrame(3, framed("B\x02"+bytes+firstBytes)) != want {
				t.Errorf("P8: %s, kind %d, beside another: want %v", x.why, base[kind], want)
			}
		}
	}
	for _, r := range []int64{0, 'a', 0xd7ff, 0xd800, 0xdbff, 0xdc00, 0xdfff, 0xe000, 0xfffd, 0xffff, 0x10000, 0x10ffff, 0x110000, 1 << 31, 1<<32 + 'a', 1 << 40} {
		want := r <= utf8.MaxRune && utf8.ValidRune(rune(r))
		if is := isFrame(1, framed("B\x01\x01\x01\x01\x00\x00\x00"+varints(r)+"\x00")); is != want {
			t.Errorf("P8: the rune %x: %v, want %v", r, is, want)
		}
	}
}

func TestCounts(t *testing.T) {
	for _, x := range []struct {
		bytes string
		is    bool
	}{
		{"B", false}, {"B\x00", false}, {"B\x00" + firstBytes, false}, {"B\x01", false}, {"B\x01" + firstBytes, true},
		{"B\x02" + firstBytes, false}, {"B\x01" + firstBytes + firstBytes, false}, {"B\x02" + firstBytes + goneBytes, true},
		{"B\x81\x00" + firstBytes, false}, {"B\x01" + firstBytes + "\x00", false}, {"B\x01" + firstBytes[1:], false}, {"B\x01" + firstBytes[:9], false},
		{"B" + varints(1<<62) + firstBytes, false}, {"B\x81\x80\x80\x80\x80\x80\x80\x80\x80\x80\x01" + firstBytes, false}, {"B\x81\x80\x80\x80\x80\x80\x80\x80\x80\x02" + firstBytes, false},
	} {
		if is := isFrame(3, framed(x.bytes)); is != x.is {
			t.Errorf("P8: %x: %v, want %v", x.bytes, is, x.is)
		}
	}
}

// TestShortestForms writes each number of a good batch one byte longer, in turn.
func TestShortestForms(t *testing.T) {
	numbers := []int64{2, 1, 1, 300, 0, 0, 0, 0xe9, 0, 0, 0, 2, 3, 300, 1, 128, 3, 5, 2, 6}
	good := varints(numbers...)
	if !isFrame(3, framed("B"+good)) {
		t.Fatalf("P8: %x is no frame", good)
	}
	for at := range numbers {
		for _, zeros := range []string{"\x00", "\x80\x00", strings.Repeat("\x80", 9) + "\x00"} {
			longer := []byte(varints(numbers[at]))
			longer[len(longer)-1] += 128
			s := "B" + varints(numbers[:at]...) + string(longer) + zeros + varints(numbers[at+1:]...)
			if isFrame(3, framed(s)) {
				t.Errorf("P8: number %d in a longer form is taken: %x", at, s)
			}
		}
	}
}

// TestGreatVarintsDoNotWrap: a number of more bits than there are is not taken for a small one.
func TestGreatVarintsDoNotWrap(t *testing.T) {
	for length := 7; length < 40; length++ {
		for last := byte(1); last < 128; last <<= 1 {
			great := "\x81" + strings.Repeat("\x80", length-2) + string([]byte{last})
			if isFrame(1, framed("D"+great+"\x00")) || isFrame(1, framed("D\x01"+great)) || isFrame(1, framed("B"+great+"\x01\x01\x01\x00\x00\x00a\x00")) {
				t.Errorf("P8: %x is taken for 1", great)
			}
		}
	}
}

// TestLengths: MaxDatagram bytes may be, one more may not.
func TestLengths(t *testing.T) {
	small := "\x01\x01\x01\x00\x00\x00a\x00"
	full := framed("B\x0e" + strings.Repeat(small, 12) + strings.Repeat("\x01\x01\x01\x00\x00\x00\xe9\x01\x00", 2))
	over := framed("B\x0e" + strings.Repeat(small, 11) + strings.Repeat("\x01\x01\x01\x00\x00\x00\xe9\x01\x00", 3))
	if len(full) != 120 || len(over) != 121 {
		t.Fatalf("%d and %d bytes", len(full), len(over))
	}
	if !isFrame(1, full) {
		t.Error("P8: 120 bytes are no frame")
	}
	if isFrame(1, over) {
		t.Error("P8: 121 bytes are a frame")
	}
	if s := framed("B\x40" + strings.Repeat(small, 64)); isFrame(1, s) {
		t.Errorf("P8: %d bytes are a frame", len(s))
	}
}

// TestSpoilt changes each bit, and cuts and prolongs at each end: the sum tells it.
func TestSpoilt(t *testing.T) {
	for _, good := range []string{framed("D\x02\x01\x64\x03"), framed("B\x02" + firstBytes + goneBytes)} {
		if !isFrame(3, good) {
			t.Fatalf("P8: %x is no frame", good)
		}
		for at := range len(good) {
			for bit := range 8 {
				spoilt := []byte(good)
				spoilt[at] ^= 1 << bit
				if isFrame(3, string(spoilt)) {
					t.Errorf("P8: %x is a frame", spoilt)
				}
			}
			if isFrame(3, good[:at]) || at > 0 && isFrame(3, good[at:]) {
				t.Errorf("P8: a piece cut at %d is a frame", at)
			}
		}
		if isFrame(3, good+"\x00") || isFrame(3, "\x00"+good) || isFrame(3, good+good) {
			t.Error("P8: more than a frame is a frame")
		}
	}
}

// holds tells whether what was read is within the bounds of P8, and is just what the datagram says.
func holds(copies int, datagram string, f Frame) bool {
	if f.Content == Digest {
		return within(f.Copy, 1, copies) && clockHolds(copies, f.Clock) && f.Operations == nil && WriteDigest(copies, f.Copy, f.Clock) == datagram
	}
	for _, o := range f.Operations {
		target := within(o.Target.Counter, 1, o.Counter-1) && within(o.Target.Copy, 1, copies) || o.Target == op.Beginning() && o.Kind == op.Insert
		if !within(o.Origin, 1, copies) || !within(o.Number, 1, 100) || !within(o.Counter, 1, 1<<40) || !within(o.Kind, op.Insert, op.Delete) || !target || !utf8.ValidRune(o.Rune) || !clockHolds(copies, o.Clock) || o.Clock[o.Origin-1] != o.Number-1 {
			return false
		}
	}
	again := WriteBatches(copies, f.Operations)
	return len(again) == 1 && again[0] == datagram && len(datagram) <= 120
}

func within[T int | int64 | op.Kind](n, least, greatest T) bool { return least <= n && n <= greatest }

func clockHolds(copies int, clock op.Clock) bool {
	for i, n := range clock {
		if !within(n, 0, 100) || i >= copies && n != 0 {
			return false
		}
	}
	return true
}

// TestWrittenIsRead: what copies may tell is a frame, and is read as it was told.
func TestWrittenIsRead(t *testing.T) {
	r := rand.New(rand.NewSource(3))
	for range 2000 {
		copies := 1 + r.Intn(8)
		var all, read []op.Operation
		for range r.Intn(30) {
			all = append(all, anyOperation(r, copies))
		}
		for _, s := range WriteBatches(copies, all) {
			f, is := Read(copies, s)
			if !is || f.Content != Batch || !holds(copies, s, f) {
				t.Fatalf("P8: %x is read as %+v, %v", s, f, is)
			}
			read = append(read, f.Operations...)
		}
		if !reflect.DeepEqual(all, read) {
			t.Fatalf("P7: told %+v, read %+v", all, read)
		}
	}
}

func anyOperation(r *rand.Rand, copies int) op.Operation {
	var o op.Operation
	o.Origin, o.Number = 1+r.Intn(copies), 1+r.Intn(100)
	o.Counter = 1 + r.Int63n(1<<r.Intn(41))
	for i := range copies {
		o.Clock[i] = r.Intn(101)
	}
	o.Clock[o.Origin-1] = o.Number - 1
	if o.Counter > 1 && r.Intn(4) > 0 {
		o.Target = op.Mark{Counter: 1 + r.Int63n(o.Counter-1), Copy: 1 + r.Intn(copies)}
		o.Kind = op.Kind(r.Intn(2))
	}
	if o.Kind == op.Insert {
		o.Rune = rune(r.Intn(0x110000))
		if !utf8.ValidRune(o.Rune) {
			o.Rune = 'x'
		}
	}
	return o
}

// TestAnyBytes: whatever comes, what is taken for a frame is one. Bytes are changed under a right sum, so that it hides nothing.
func TestAnyBytes(t *testing.T) {
	r := rand.New(rand.NewSource(4))
	taken := 0
	for range 200000 {
		copies := 1 + r.Intn(8)
		var bytes []byte
		switch r.Intn(3) {
		case 0:
			bytes = make([]byte, r.Intn(130))
			r.Read(bytes)
		case 1:
			bytes = []byte(WriteDigest(copies, 1+r.Intn(copies), anyOperation(r, copies).Clock))
		case 2:
			bytes = []byte(WriteBatches(copies, []op.Operation{anyOperation(r, copies), anyOperation(r, copies), anyOperation(r, copies)})[0])
		}
		bytes = bytes[:max(0, len(bytes)-4)]
		for range r.Intn(3) {
			if len(bytes) > 0 {
				bytes[r.Intn(len(bytes))] = byte(r.Intn(256) >> r.Intn(8))
			}
		}
		s := framed(string(bytes))
		if f, is := Read(copies, s); is {
			taken++
			if !holds(copies, s, f) {
				t.Fatalf("P8: %x to one of %d is read as %+v", s, copies, f)
			}
		}
	}
	if taken < 1000 {
		t.Errorf("only %d frames among the bytes: this tells little", taken)
	}
}

func FuzzRead(f *testing.F) {
	f.Add(2, "D\x01\x00\x00")
	f.Add(3, "B\x03"+firstBytes+wideBytes+goneBytes)
	f.Fuzz(func(t *testing.T, copies int, bytes string) {
		if !within(copies, 1, 8) {
			return
		}
		for _, s := range []string{bytes, framed(bytes)} {
			if x, is := Read(copies, s); is && !holds(copies, s, x) {
				t.Errorf("P8: %x to one of %d is read as %+v", s, copies, x)
			}
		}
	})
}
