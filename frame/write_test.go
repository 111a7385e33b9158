package frame

import (
	"fmt"
	"hash/fnv"
	"slices"
	"strings"
	"testing"

	"inkwell/api"
	"inkwell/op"
)

// framed puts the sum behind bytes, by the library's own way of it.
func framed(bytes string) string {
	h := fnv.New32a()
	h.Write([]byte(bytes))
	return string(h.Sum([]byte(bytes)))
}

func TestVarints(t *testing.T) {
	for n, want := range map[int64]string{
		0: "\x00", 1: "\x01", 127: "\x7f", 128: "\x80\x01", 129: "\x81\x01", 255: "\xff\x01", 256: "\x80\x02", 300: "\xac\x02",
		16383: "\xff\x7f", 16384: "\x80\x80\x01", 0x10ffff: "\xff\xff\x43", api.MaxCounter: "\x80\x80\x80\x80\x80\x20",
	} {
		if s := string(appendVarints(nil, n)); s != want {
			t.Errorf("Words: the varint of %d is %x, want %x", n, s, want)
		}
	}
	if s := string(appendVarints([]byte{9}, 1, 128, 2)); s != "\x09\x01\x80\x01\x02" {
		t.Errorf("Words: varints one behind the other: %x", s)
	}
}

func TestSum(t *testing.T) {
	for text, want := range map[string]uint32{"": 2166136261, "a": 0xe40c292c, "foobar": 0xbf9cf968} {
		if s := sum([]byte(text)); s != want {
			t.Errorf("Words: the sum of %q is %x, want %x", text, s, want)
		}
	}
	if s := seal([]byte("foobar")); s != "foobar\xbf\x9c\xf9\x68" {
		t.Errorf("P7: the highest byte of the sum is not first: %x", s)
	}
}

func TestWriteDigest(t *testing.T) {
	full := op.Clock{100, 2, 3, 4, 5, 6, 7, 99}
	for _, x := range []struct {
		copies, self int
		clock        op.Clock
		want         string
	}{
		{2, 1, op.Clock{}, "D\x01\x00\x00"},
		{1, 1, op.Clock{7}, "D\x01\x07"},
		{3, 2, op.Clock{1, 100, 3}, "D\x02\x01\x64\x03"},
		{8, 8, full, "D\x08\x64\x02\x03\x04\x05\x06\x07\x63"},
	} {
		if s := WriteDigest(x.copies, x.self, x.clock); s != framed(x.want) {
			t.Errorf("P7: digest %x, want %x", s, framed(x.want))
		}
	}
}

// some operations of three copies, and their bytes.
var (
	first = op.Operation{Name: op.Name{Origin: 1, Number: 1}, Counter: 1, Kind: op.Insert, Rune: 'a'}
	wide  = op.Operation{Name: op.Name{Origin: 3, Number: 100}, Counter: api.MaxCounter, Kind: op.Insert, Target: op.Mark{Counter: api.MaxCounter - 1, Copy: 2}, Rune: 0x10ffff, Clock: op.Clock{100, 0, 99}}
	gone  = op.Operation{Name: op.Name{Origin: 2, Number: 3}, Counter: 300, Kind: op.Delete, Target: op.Mark{Counter: 128, Copy: 3}, Clock: op.Clock{5, 2, 6}}
)

const (
	firstBytes = "\x01\x01\x01\x00\x00\x00a\x00\x00\x00"
	wideBytes  = "\x03\x64\x80\x80\x80\x80\x80\x20\x00\xff\xff\xff\xff\xff\x1f\x02\xff\xff\x43\x64\x00\x63"
	goneBytes  = "\x02\x03\xac\x02\x01\x80\x01\x03\x05\x02\x06"
)

func TestWriteBatch(t *testing.T) {
	got := WriteBatches(3, []op.Operation{first, wide, gone})
	want := []string{framed("B\x03" + firstBytes + wideBytes + goneBytes)}
	if !slices.Equal(got, want) {
		t.Errorf("P7: %x, want %x", got, want)
	}
	if got := WriteBatches(3, nil); len(got) != 0 {
		t.Errorf("P7: a batch of no operation: %x", got)
	}
}

// TestBatchesAreFilled: each batch has all that it has room for, to the last byte.
func TestBatchesAreFilled(t *testing.T) {
	// In a batch of one copy these have so many bytes.
	sized := map[int]op.Operation{
		7:  {Name: op.Name{Origin: 1, Number: 1}, Counter: 9, Kind: op.Delete, Target: op.Mark{Counter: 1, Copy: 1}},
		8:  {Name: op.Name{Origin: 1, Number: 1}, Counter: 9, Kind: op.Insert, Rune: 'a'},
		9:  {Name: op.Name{Origin: 1, Number: 1}, Counter: 9, Kind: op.Insert, Rune: 'é'},
		10: {Name: op.Name{Origin: 1, Number: 1}, Counter: 9, Kind: op.Insert, Rune: '€' + 0x3000},
		20: {Name: op.Name{Origin: 1, Number: 1}, Counter: api.MaxCounter, Kind: op.Insert, Target: op.Mark{Counter: api.MaxCounter - 1, Copy: 1}, Rune: 0x10ffff},
	}
	for size, o := range sized {
		if n := len(appendOperation(nil, 1, o)); n != size {
			t.Fatalf("an operation of %d bytes has %d", size, n)
		}
	}
	repeat := func(size, times int) []int { return slices.Repeat([]int{size}, times) }
	for _, x := range []struct {
		sizes []int
		want  []int // the sizes of the datagrams
	}{
		{repeat(8, 14), []int{118}},
		{repeat(8, 15), []int{118, 14}},
		{repeat(7, 16), []int{118}},
		{repeat(7, 17), []int{118, 13}},
		{append(repeat(8, 12), 9, 9), []int{120}},
		{append(repeat(8, 12), 9, 10), []int{111, 16}},
		{append(repeat(8, 12), 9, 9, 7), []int{120, 13}},
		{append(repeat(20, 5), 7, 7), []int{120}},
		{append(repeat(20, 5), 7, 8), []int{113, 14}},
		// A small one behind one that has no room waits too: the order holds.
		{append(repeat(20, 5), 20, 7, 7), []int{106, 40}},
		{repeat(20, 11), []int{106, 106, 26}},
	} {
		var all []op.Operation
		for _, size := range x.sizes {
			all = append(all, sized[size])
		}
		var body string
		var sizes []int
		count := 0
		for _, s := range WriteBatches(1, all) {
			if s != framed(s[:len(s)-4]) || s[0] != 'B' {
				t.Errorf("P7: %x", s)
			}
			sizes = append(sizes, len(s))
			count += int(s[1])
			body += s[2 : len(s)-4]
		}
		if !slices.Equal(sizes, x.want) || count != len(all) {
			t.Errorf("P10: %v: datagrams of %v bytes with %d operations, want %v", x.sizes, sizes, count, x.want)
		}
		var want strings.Builder
		for _, o := range all {
			want.Write(appendOperation(nil, 1, o))
		}
		if body != want.String() {
			t.Errorf("P10: %v: the operations are not in order", x.sizes)
		}
	}
}

func ExampleWriteDigest() {
	fmt.Println([]byte(WriteDigest(2, 1, op.Clock{}))[:4])
	// Output: [68 1 0 0]
}
