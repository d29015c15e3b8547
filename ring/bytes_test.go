package ring_test

import (
	"bytes"
	"math"
	"slices"
	"testing"

	"ratoon/api"
	"ratoon/ring"
)

func newBytes(t *testing.T, size int) *ring.Bytes {
	t.Helper()
	q, e := ring.NewBytes(size)
	if e != api.OK || q == nil {
		t.Fatalf("new byte queue with the size %d: error %d", size, e)
	}
	return q
}

// putBytes puts in bytes, and expects how many of them there is room for.
func putBytes(t *testing.T, q *ring.Bytes, s string, want int) {
	t.Helper()
	if n := q.Put([]byte(s)); n != want {
		t.Fatalf("Put(%q) took %d bytes instead of %d", s, n, want)
	}
}

func takeBytes(t *testing.T, q *ring.Bytes, n int, want string) {
	t.Helper()
	if b := q.Take(n); string(b) != want {
		t.Fatalf("Take(%d) returned %q instead of %q", n, b, want)
	}
}

// expectBytes compares what a queue has, without changing it.
func expectBytes(t *testing.T, q *ring.Bytes, size int, want string) {
	t.Helper()
	if q.Len() != len(want) || q.Free() != size-len(want) {
		t.Fatalf("%d bytes, and room for %d, instead of %d of %d", q.Len(), q.Free(), len(want), size)
	}
	for n := range len(want) + 3 {
		if b := q.Peek(n); string(b) != want[:min(n, len(want))] {
			t.Fatalf("Peek(%d) returned %q instead of the beginning of %q", n, b, want)
		}
	}
	for c := range 256 {
		if i := q.Index(byte(c)); i != bytes.IndexByte([]byte(want), byte(c)) {
			t.Fatalf("Index(%d) is %d in %q", c, i, want)
		}
	}
}

// notPositive are numbers for which no bytes are returned.
func notPositive() []int { return []int{0, -1, -4, math.MinInt, math.MinInt + 1} }

// wrongSizes are sizes that queues of neither kind have.
func wrongSizes() []int {
	return []int{0, -1, -200, -4096, 4097, 1 << 32, math.MinInt, math.MaxInt}
}

func TestP6_1NewBytes(t *testing.T) {
	for _, size := range []int{1, 2, 3, 200, 201, 4095, 4096} {
		expectBytes(t, newBytes(t, size), size, "")
	}
	for _, size := range wrongSizes() {
		if q, e := ring.NewBytes(size); q != nil || e != api.ErrRange {
			t.Errorf("size %d: %v, error %d", size, q, e)
		}
	}
}

func TestP6_1Examples(t *testing.T) {
	q := newBytes(t, 4)
	putBytes(t, q, "abcdef", 4)
	takeBytes(t, q, 3, "abc")
	putBytes(t, q, "xy", 2)
	expectBytes(t, q, 4, "dxy")
}

func TestP6_1PutBytes(t *testing.T) {
	q := newBytes(t, 3)
	putBytes(t, q, "", 0)
	putBytes(t, q, "a", 1)
	putBytes(t, q, "bc", 2)
	expectBytes(t, q, 3, "abc")
	putBytes(t, q, "d", 0)
	putBytes(t, q, "", 0)
	expectBytes(t, q, 3, "abc")
	takeBytes(t, q, 1, "a")
	putBytes(t, q, "de", 1)
	expectBytes(t, q, 3, "bcd")
	if n := q.Put(nil); n != 0 {
		t.Error(n, "bytes of nil")
	}
}

func TestP6_1AnyByte(t *testing.T) {
	var all []byte
	for c := range 256 {
		all = append(all, byte(c))
	}
	q := newBytes(t, 256)
	putBytes(t, q, string(all), 256)
	expectBytes(t, q, 256, string(all))
	takeBytes(t, q, 256, string(all))
	expectBytes(t, q, 256, "")
}

func TestP6_1TakeBytes(t *testing.T) {
	q := newBytes(t, 5)
	putBytes(t, q, "abcde", 5)
	for _, n := range notPositive() {
		takeBytes(t, q, n, "")
		expectBytes(t, q, 5, "abcde")
	}
	takeBytes(t, q, 2, "ab")
	expectBytes(t, q, 5, "cde")
	takeBytes(t, q, 4, "cde")
	expectBytes(t, q, 5, "")
	takeBytes(t, q, 1, "")
	putBytes(t, q, "fg", 2)
	takeBytes(t, q, math.MaxInt, "fg")
	takeBytes(t, q, math.MaxInt, "")
	expectBytes(t, q, 5, "")
}

func TestP6_1PeekBytes(t *testing.T) {
	q := newBytes(t, 5)
	putBytes(t, q, "abcd", 4)
	takeBytes(t, q, 3, "abc")
	putBytes(t, q, "efg", 3)
	for _, n := range notPositive() {
		if b := q.Peek(n); len(b) > 0 {
			t.Errorf("Peek(%d) returned %q", n, b)
		}
	}
	for _, n := range []int{4, 5, 6, math.MaxInt - 1, math.MaxInt} {
		if b := q.Peek(n); string(b) != "defg" {
			t.Errorf("Peek(%d) returned %q", n, b)
		}
	}
	expectBytes(t, q, 5, "defg")
}

func TestP6_1IndexCountsFromTheFront(t *testing.T) {
	q := newBytes(t, 5)
	putBytes(t, q, "abcba", 5)
	expectBytes(t, q, 5, "abcba")
	takeBytes(t, q, 2, "ab")
	// What was taken out is not found any more, even where its place is not used yet.
	putBytes(t, q, "x", 1)
	expectBytes(t, q, 5, "cbax")
	if i := q.Index('a'); i != 2 {
		t.Error("the first a is at", i)
	}
	takeBytes(t, q, 4, "cbax")
	expectBytes(t, q, 5, "")
}

// The first place moves around through all places, with every number of bytes.
func TestP6_1PlacesAreUsedAgain(t *testing.T) {
	for size := 1; size <= 9; size++ {
		for held := range size + 1 {
			q, s := newBytes(t, size), ""
			for i := range 4 * size {
				s += string(rune('a' + i))
			}
			putBytes(t, q, s[:held], held)
			for i := held; i < len(s) && held > 0; i++ {
				takeBytes(t, q, 1, s[i-held:i-held+1])
				putBytes(t, q, s[i:i+1], 1)
				expectBytes(t, q, size, s[i-held+1:i+1])
			}
		}
	}
}

func TestP6_1LargestByteQueue(t *testing.T) {
	q, b := newBytes(t, 4096), make([]byte, 5000)
	for i := range b {
		b[i] = byte(i % 251)
	}
	putBytes(t, q, string(b), 4096)
	takeBytes(t, q, 4000, string(b[:4000]))
	putBytes(t, q, string(b[4096:]), 904)
	takeBytes(t, q, 5000, string(b[4000:]))
}

func TestP6_1NilByteQueue(t *testing.T) {
	var q *ring.Bytes
	for _, n := range []int{0, 1, -1, math.MaxInt, math.MinInt} {
		if a, b := q.Take(n), q.Peek(n); a != nil || b != nil {
			t.Errorf("%d bytes: %v, %v", n, a, b)
		}
	}
	if n := q.Put([]byte("ab")) + q.Put(nil); n != 0 {
		t.Error("Put took", n)
	}
	if i := q.Index(0); i != -1 {
		t.Error("a byte at", i)
	}
	if q.Len() != 0 || q.Free() != 0 || q.Encode() != nil {
		t.Error("a nil pointer has no bytes")
	}
}

func TestP1ZeroByteQueue(t *testing.T) {
	// NewBytes does not make such a queue, but Go does.
	var q ring.Bytes
	putBytes(t, &q, "ab", 0)
	takeBytes(t, &q, 1, "")
	expectBytes(t, &q, 0, "")
}

func TestP6_1BytesAreIndependent(t *testing.T) {
	q, given := newBytes(t, 4), []byte("abcd")
	q.Put(given)
	if string(given) != "abcd" {
		t.Errorf("the argument was changed to %q", given)
	}
	clear(given)
	clear(q.Peek(4))
	clear(q.Encode())
	expectBytes(t, q, 4, "abcd")
	peeked, taken := q.Peek(3), q.Take(2)
	putBytes(t, q, "xyz", 2)
	if string(peeked) != "abc" || string(taken) != "ab" {
		t.Errorf("the results were changed: %q, %q", peeked, taken)
	}
	clear(append(taken, "...."...))
	clear(append(peeked, "...."...))
	expectBytes(t, q, 4, "cdxy")
	putBytes(t, newBytes(t, 4), "1234", 4)
	expectBytes(t, q, 4, "cdxy")
}

func TestP6_4EncodeBytes(t *testing.T) {
	q := newBytes(t, 3)
	expectEncoding := func(want ...byte) {
		t.Helper()
		if b := q.Encode(); !bytes.Equal(b, want) {
			t.Errorf("%v instead of %v", b, want)
		}
	}
	expectEncoding(6, 0)
	putBytes(t, q, "abc", 3)
	expectEncoding(6, 6, 97, 98, 99)
	takeBytes(t, q, 2, "ab")
	expectEncoding(6, 2, 99)
	// The encoding does not tell where the first place is.
	putBytes(t, q, "d", 1)
	expectEncoding(6, 4, 99, 100)
	takeBytes(t, q, 2, "cd")
	expectEncoding(6, 0)
	q = newBytes(t, 4096)
	expectEncoding(128, 64, 0)
	putBytes(t, q, string(make([]byte, 64)), 64)
	expectEncoding(append([]byte{128, 64, 128, 1}, make([]byte, 64)...)...)
}

func TestP6_4DecodeBytes(t *testing.T) {
	full := append([]byte{128, 64, 128, 64}, make([]byte, 4096)...)
	for _, c := range []struct {
		b    []byte
		size int
		want string
	}{
		{[]byte{2, 0}, 1, ""},
		{[]byte{2, 2, 0}, 1, "\x00"},
		{[]byte{8, 6, 'd', 'x', 'y'}, 4, "dxy"},
		{[]byte{8, 8, 'd', 'x', 'y', 255}, 4, "dxy\xff"},
		{[]byte{254, 63, 2, 'a'}, 4095, "a"},
		{[]byte{128, 64, 0}, 4096, ""},
		{full, 4096, string(full[4:])},
	} {
		q, e := ring.DecodeBytes(c.b)
		if e != api.OK || q == nil {
			t.Fatalf("%v: error %d", c.b, e)
		}
		expectBytes(t, q, c.size, c.want)
		if b := q.Encode(); !bytes.Equal(b, c.b) {
			t.Errorf("%v is encoded as %v", c.b, b)
		}
		room := c.size - len(c.want)
		putBytes(t, q, string(make([]byte, room+1)), room)
		takeBytes(t, q, len(c.want), c.want)
	}
}

// noByteQueues are bytes that are no encodings.
func noByteQueues() [][]byte {
	whole := []byte{12, 10, 97, 128, 0, 255, 98}
	l := [][]byte{
		// Sizes: 0, -1, 4097, the greatest and the least ones, and other encodings of 1.
		nil, {}, {0}, {0, 0}, {1}, {1, 0}, {130, 64, 0}, {130, 64, 2, 1},
		{254, 255, 255, 255, 255, 255, 255, 255, 255, 1, 0}, {255, 255, 255, 255, 255, 255, 255, 255, 255, 1, 0},
		{130, 0, 0}, {130, 128, 0, 0}, {130}, {128},
		// More bytes than the size says, and as many as there are not.
		{2, 4, 97, 98}, {6, 8, 97, 98, 99, 100}, append([]byte{128, 64, 130, 64}, make([]byte, 4097)...),
		{6, 4, 97}, {6, 2}, {6},
		// Numbers of bytes: -1, -2, the greatest and the least ones, another encoding of 1, and none.
		{6, 1}, {6, 3}, {6, 3, 97, 98}, {6, 130, 0, 97}, {6, 128}, {6, 255},
		{6, 254, 255, 255, 255, 255, 255, 255, 255, 255, 1}, {6, 255, 255, 255, 255, 255, 255, 255, 255, 255, 1},
		// Bytes behind the end.
		{6, 0, 0}, {6, 2, 97, 98}, {6, 4, 97, 98, 99}, append(slices.Clone(whole), 0),
	}
	for n := range len(whole) {
		l = append(l, whole[:n])
	}
	return l
}

// noEncodings expects that bytes are refused, and are not changed.
func noEncodings[Q any](t *testing.T, l [][]byte, decode func([]byte) (*Q, api.Errno)) {
	t.Helper()
	for _, b := range l {
		kept := slices.Clone(b)
		if q, e := decode(b); q != nil || e != api.ErrForm {
			t.Errorf("%v: %v, error %d", b, q, e)
		}
		if !bytes.Equal(b, kept) {
			t.Errorf("%v was changed to %v", kept, b)
		}
	}
}

func TestP6_4NoByteQueues(t *testing.T) {
	noEncodings(t, noByteQueues(), ring.DecodeBytes)
	if _, e := ring.DecodeBytes([]byte{12, 10, 97, 128, 0, 255, 98}); e != api.OK {
		t.Error(e)
	}
}

func TestP6_4DecodeBytesIsIndependent(t *testing.T) {
	b := []byte{8, 8, 'a', 'b', 'c', 'd'}
	kept := slices.Clone(b)
	q, e := ring.DecodeBytes(b)
	if e != api.OK {
		t.Fatal(e)
	}
	takeBytes(t, q, 2, "ab")
	putBytes(t, q, "xy", 2)
	if !bytes.Equal(b, kept) {
		t.Error("the argument was changed:", b)
	}
	clear(b)
	expectBytes(t, q, 4, "cdxy")
}
