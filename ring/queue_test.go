package ring_test

import (
	"bytes"
	"math"
	"slices"
	"testing"

	"ratoon/api"
	"ratoon/ring"
)

func newQueue(t *testing.T, size int) *ring.Queue {
	t.Helper()
	q, e := ring.NewQueue(size)
	if e != api.OK || q == nil {
		t.Fatalf("new message queue with the size %d: error %d", size, e)
	}
	return q
}

// msg returns a message that differs from those of other senders and numbers in
// every field.
func msg(src, seq int) api.Msg {
	n := 10*src + seq
	return api.Msg{
		Src: src, Dst: n + 1, Kind: -n, Seq: seq, Args: [4]int{n + 2, n + 3, -n - 4, n << 40},
		Data: []byte{byte(n), byte(n >> 8), 7},
	}
}

func equalMsg(a, b api.Msg) bool {
	same := bytes.Equal(a.Data, b.Data) && a.Args == b.Args
	return same && a.Src == b.Src && a.Dst == b.Dst && a.Kind == b.Kind && a.Seq == b.Seq
}

func put(t *testing.T, q *ring.Queue, l ...api.Msg) {
	t.Helper()
	for _, m := range l {
		if e := q.Put(m); e != api.OK {
			t.Fatalf("Put of a message from %d: error %d", m.Src, e)
		}
	}
}

// refused expects that a message is not put in, and that nothing is changed.
func refused(t *testing.T, q *ring.Queue, m api.Msg) {
	t.Helper()
	before := q.Encode()
	if e := q.Put(m); e != api.ErrLimit {
		t.Errorf("Put of a message with %d bytes: error %d", len(m.Data), e)
	}
	if !bytes.Equal(q.Encode(), before) {
		t.Error("Put changed the queue")
	}
}

// take takes out messages, and expects which ones they are.
func take(t *testing.T, q *ring.Queue, l ...api.Msg) {
	t.Helper()
	for _, want := range l {
		if m, found := q.First(); !found || !equalMsg(m, want) {
			t.Fatalf("First: %v, %t instead of %v", m, found, want)
		}
		if m, found := q.Take(); !found || !equalMsg(m, want) {
			t.Fatalf("Take: %v, %t instead of %v", m, found, want)
		}
	}
}

// empty expects that a queue has no messages.
func empty(t *testing.T, q *ring.Queue) {
	t.Helper()
	if m, found := q.First(); found || !equalMsg(m, api.Msg{}) {
		t.Errorf("First: %v, %t", m, found)
	}
	if m, found := q.Take(); found || !equalMsg(m, api.Msg{}) {
		t.Errorf("Take: %v, %t", m, found)
	}
	if q.Len() != 0 {
		t.Error("still", q.Len(), "messages")
	}
}

// expect compares the messages of a queue, and leaves them there.
func expect(t *testing.T, q *ring.Queue, l ...api.Msg) {
	t.Helper()
	if q.Len() != len(l) {
		t.Fatalf("%d messages instead of %d", q.Len(), len(l))
	}
	other := decoded(t, q.Encode())
	take(t, other, l...)
	empty(t, other)
}

func decoded(t *testing.T, b []byte) *ring.Queue {
	t.Helper()
	q, e := ring.DecodeQueue(b)
	if e != api.OK || q == nil {
		t.Fatalf("%v: error %d", b, e)
	}
	return q
}

func TestP6_1NewQueue(t *testing.T) {
	for size := 1; size <= 200; size++ {
		empty(t, newQueue(t, size))
	}
	for _, size := range append(wrongSizes(), 201, 4096) {
		if q, e := ring.NewQueue(size); q != nil || e != api.ErrRange {
			t.Errorf("size %d: %v, error %d", size, q, e)
		}
	}
}

func TestP6_1PutAndTake(t *testing.T) {
	q := newQueue(t, 3)
	put(t, q, msg(1, 1), msg(2, 1), msg(1, 2))
	expect(t, q, msg(1, 1), msg(2, 1), msg(1, 2))
	take(t, q, msg(1, 1))
	expect(t, q, msg(2, 1), msg(1, 2))
	put(t, q, msg(-3, 9))
	take(t, q, msg(2, 1), msg(1, 2), msg(-3, 9))
	empty(t, q)
	put(t, q, msg(4, 1))
	take(t, q, msg(4, 1))
	empty(t, q)
}

func TestP6_1FirstLeavesTheMessage(t *testing.T) {
	q := newQueue(t, 2)
	put(t, q, msg(1, 1), msg(2, 2))
	for range 3 {
		if m, found := q.First(); !found || !equalMsg(m, msg(1, 1)) {
			t.Fatal(m, found)
		}
	}
	expect(t, q, msg(1, 1), msg(2, 2))
}

func TestP6_1FullQueue(t *testing.T) {
	for _, size := range []int{1, 2, 199, 200} {
		q := newQueue(t, size)
		for i := range size {
			put(t, q, msg(1, i))
		}
		refused(t, q, msg(2, 0))
		refused(t, q, api.Msg{})
		take(t, q, msg(1, 0))
		put(t, q, msg(2, 0))
		refused(t, q, msg(3, 0))
		for i := 1; i < size; i++ {
			take(t, q, msg(1, i))
		}
		take(t, q, msg(2, 0))
		empty(t, q)
	}
}

func TestP6_1DataOfAMessage(t *testing.T) {
	q := newQueue(t, 3)
	refused(t, q, api.Msg{Data: make([]byte, 1537)})
	refused(t, q, api.Msg{Data: make([]byte, 5000)})
	most := api.Msg{Src: 3, Data: bytes.Repeat([]byte{5}, 1536)}
	put(t, q, most, api.Msg{Src: 4}, api.Msg{Src: 5, Data: []byte{}})
	// A full queue and too many bytes are the same error.
	refused(t, q, api.Msg{Data: make([]byte, 1537)})
	expect(t, q, most, api.Msg{Src: 4}, api.Msg{Src: 5})
	take(t, q, most, api.Msg{Src: 4}, api.Msg{Src: 5})
}

func TestP6_1AnyNumbers(t *testing.T) {
	q := newQueue(t, 2)
	least := api.Msg{Src: math.MinInt, Dst: -1, Kind: math.MinInt, Seq: -1, Args: [4]int{math.MinInt, -1, 0, 1}}
	most := api.Msg{Src: math.MaxInt, Dst: math.MaxInt, Kind: -7, Seq: math.MaxInt, Args: [4]int{3: math.MaxInt}}
	put(t, q, least, most)
	expect(t, q, least, most)
	if n := q.Drop(math.MinInt); n != 1 {
		t.Error(n, "dropped")
	}
	take(t, q, most)
}

func TestP6_5Drop(t *testing.T) {
	a, b, c := msg(1, 1), msg(2, 1), msg(1, 2)
	for _, x := range []struct {
		put  []api.Msg
		src  int
		n    int
		left []api.Msg
	}{
		{nil, 1, 0, nil},
		{nil, 0, 0, nil},
		{[]api.Msg{a}, 1, 1, nil},
		{[]api.Msg{a}, 2, 0, []api.Msg{a}},
		{[]api.Msg{a, b, c}, 1, 2, []api.Msg{b}},
		{[]api.Msg{a, b, c}, 2, 1, []api.Msg{a, c}},
		{[]api.Msg{a, b, c}, 3, 0, []api.Msg{a, b, c}},
		{[]api.Msg{a, b, c}, 0, 0, []api.Msg{a, b, c}},
		{[]api.Msg{b, b, a, a, b, c}, 1, 3, []api.Msg{b, b, b}},
		{[]api.Msg{b, a, a, c, b, b}, 2, 3, []api.Msg{a, a, c}},
		{[]api.Msg{a, c, a, c, a, c}, 1, 6, nil},
		// The sender counts, and none of the other numbers.
		{[]api.Msg{{Src: 5, Dst: 7}, {Src: 7, Dst: 5}, {Src: 6, Kind: 5, Seq: 5, Args: [4]int{5, 5, 5, 5}}}, 5, 1,
			[]api.Msg{{Src: 7, Dst: 5}, {Src: 6, Kind: 5, Seq: 5, Args: [4]int{5, 5, 5, 5}}}},
		{[]api.Msg{{Src: -5}, {Src: 5}, {Src: 0}}, -5, 1, []api.Msg{{Src: 5}, {Src: 0}}},
	} {
		q := newQueue(t, 6)
		put(t, q, x.put...)
		if n := q.Drop(x.src); n != x.n {
			t.Errorf("%d of %d are dropped instead of %d", n, len(x.put), x.n)
		}
		expect(t, q, x.left...)
		if n := q.Drop(x.src); n != 0 {
			t.Error(n, "dropped a second time")
		}
		// There is room for what was dropped.
		for range 6 - len(x.left) {
			put(t, q, msg(9, 9))
		}
		refused(t, q, msg(9, 9))
		take(t, q, x.left...)
	}
}

func TestP6_1NilQueue(t *testing.T) {
	var q *ring.Queue
	for _, m := range []api.Msg{{}, msg(1, 1), {Data: make([]byte, 1537)}} {
		if e := q.Put(m); e != api.ErrState {
			t.Error("Put: error", e)
		}
	}
	empty(t, q)
	if q.Drop(0) != 0 || q.Drop(1) != 0 || q.Encode() != nil {
		t.Error("a nil pointer has no messages")
	}
}

func TestP1ZeroQueue(t *testing.T) {
	// NewQueue does not make such a queue, but Go does.
	var q ring.Queue
	refused(t, &q, msg(1, 1))
	empty(t, &q)
	if n := q.Drop(0); n != 0 {
		t.Error(n, "dropped")
	}
}

func TestP6_1MessagesAreIndependent(t *testing.T) {
	q, m := newQueue(t, 3), msg(1, 1)
	put(t, q, m, m)
	if !equalMsg(m, msg(1, 1)) {
		t.Error("the argument was changed:", m)
	}
	clear(m.Data)
	first, _ := q.First()
	clear(first.Data)
	clear(q.Encode())
	expect(t, q, msg(1, 1), msg(1, 1))
	first, _ = q.First()
	taken, _ := q.Take()
	clear(first.Data)
	if !equalMsg(taken, msg(1, 1)) {
		t.Error("two results share memory:", taken)
	}
	clear(taken.Data)
	put(t, q, msg(2, 2), msg(3, 3))
	expect(t, q, msg(1, 1), msg(2, 2), msg(3, 3))
	taken, _ = q.Take()
	q.Drop(2)
	put(t, q, msg(4, 4), msg(5, 5))
	if !equalMsg(taken, msg(1, 1)) {
		t.Error("the result was changed:", taken)
	}
	put(t, newQueue(t, 3), msg(6, 6))
	expect(t, q, msg(3, 3), msg(4, 4), msg(5, 5))
}

func TestP6_4EncodeQueue(t *testing.T) {
	q := newQueue(t, 3)
	expectEncoding := func(want ...byte) {
		t.Helper()
		if b := q.Encode(); !bytes.Equal(b, want) {
			t.Errorf("%v instead of %v", b, want)
		}
	}
	expectEncoding(6, 0)
	put(t, q, api.Msg{Src: 5, Dst: 9, Kind: 1, Seq: 64, Args: [4]int{-1, 0, 2, 3}, Data: []byte("x")})
	expectEncoding(6, 2, 10, 18, 2, 128, 1, 1, 0, 4, 6, 2, 120)
	put(t, q, api.Msg{Src: 7})
	expectEncoding(6, 4, 10, 18, 2, 128, 1, 1, 0, 4, 6, 2, 120, 14, 0, 0, 0, 0, 0, 0, 0, 0)
	q.Drop(5)
	expectEncoding(6, 2, 14, 0, 0, 0, 0, 0, 0, 0, 0)
	q.Take()
	expectEncoding(6, 0)
	q = newQueue(t, 200)
	expectEncoding(144, 3, 0)
}

func TestP6_4DecodeQueue(t *testing.T) {
	message := []byte{10, 18, 2, 128, 1, 1, 0, 4, 6, 2, 120}
	m := api.Msg{Src: 5, Dst: 9, Kind: 1, Seq: 64, Args: [4]int{-1, 0, 2, 3}, Data: []byte("x")}
	most := append([]byte{1, 1, 1, 1, 1, 1, 1, 1, 128, 24}, make([]byte, 1536)...)
	full := []byte{144, 3, 144, 3}
	for range 200 {
		full = append(full, message...)
	}
	for _, c := range []struct {
		b    []byte
		size int
		want []api.Msg
	}{
		{[]byte{2, 0}, 1, nil},
		{[]byte{144, 3, 0}, 200, nil},
		{append([]byte{2, 2}, message...), 1, []api.Msg{m}},
		{append([]byte{4, 2}, message...), 2, []api.Msg{m}},
		{append([]byte{4, 4, 14, 0, 0, 0, 0, 0, 0, 0, 0}, message...), 2, []api.Msg{{Src: 7}, m}},
		{append([]byte{6, 2}, most...), 3, []api.Msg{{Src: -1, Dst: -1, Kind: -1, Seq: -1, Args: [4]int{-1, -1, -1, -1}, Data: make([]byte, 1536)}}},
		{full, 200, slices.Repeat([]api.Msg{m}, 200)},
	} {
		q := decoded(t, c.b)
		if b := q.Encode(); !bytes.Equal(b, c.b) {
			t.Errorf("%v is encoded as %v", c.b, b)
		}
		expect(t, q, c.want...)
		for range c.size - len(c.want) {
			put(t, q, api.Msg{})
		}
		refused(t, q, api.Msg{})
		take(t, q, c.want...)
	}
}

// noQueues are bytes that are no encodings.
func noQueues() [][]byte {
	zero := make([]byte, 9)
	whole := []byte{6, 4, 14, 0, 0, 0, 0, 0, 0, 0, 0, 10, 18, 2, 128, 1, 1, 0, 4, 6, 2, 120}
	large := []byte{0, 0, 0, 0, 0, 0, 0, 0, 130, 24}
	l := [][]byte{
		// Sizes: 0, -1, 201, 4096, the greatest and the least ones, and another encoding of 1.
		nil, {}, {0}, {0, 0}, {1}, {1, 0}, {146, 3, 0}, append([]byte{146, 3, 2}, zero...), {128, 64, 0},
		{254, 255, 255, 255, 255, 255, 255, 255, 255, 1, 0}, {255, 255, 255, 255, 255, 255, 255, 255, 255, 1, 0},
		{130, 0, 0}, {128}, {2},
		// More messages than the size says, and as many as there are not.
		append([]byte{2, 4}, make([]byte, 18)...), append([]byte{4, 6}, make([]byte, 27)...),
		append([]byte{144, 3, 146, 3}, make([]byte, 9*201)...), {2, 2}, append([]byte{4, 4}, zero...),
		// Numbers of messages: -1, -2, the greatest and the least ones, another encoding of 0, and none.
		{2, 1}, {4, 3}, {4, 128, 0}, {4, 128},
		{4, 254, 255, 255, 255, 255, 255, 255, 255, 255, 1}, {4, 255, 255, 255, 255, 255, 255, 255, 255, 255, 1},
		// Messages: 1537 bytes, -1 bytes, fewer than there should be, another encoding of 0.
		append(append([]byte{4, 2}, large...), make([]byte, 1537)...), {4, 2, 0, 0, 0, 0, 0, 0, 0, 0, 1},
		{4, 2, 0, 0, 0, 0, 0, 0, 0, 0, 4, 97}, {4, 2, 128, 0, 0, 0, 0, 0, 0, 0, 0, 0},
		append(append([]byte{4, 4}, large...), make([]byte, 1537+9)...),
		// Bytes behind the end.
		{2, 0, 0}, append([]byte{4, 0}, zero...), append([]byte{4, 2}, make([]byte, 18)...), append(slices.Clone(whole), 0),
	}
	for n := range len(whole) {
		l = append(l, whole[:n])
	}
	return l
}

func TestP6_4NoQueues(t *testing.T) {
	noEncodings(t, noQueues(), ring.DecodeQueue)
	decoded(t, []byte{6, 4, 14, 0, 0, 0, 0, 0, 0, 0, 0, 10, 18, 2, 128, 1, 1, 0, 4, 6, 2, 120})
}

func TestP6_4DecodeQueueIsIndependent(t *testing.T) {
	b := []byte{4, 2, 10, 0, 0, 0, 0, 0, 0, 0, 6, 97, 98, 99}
	kept := slices.Clone(b)
	q := decoded(t, b)
	m, _ := q.Take()
	clear(m.Data)
	put(t, q, msg(1, 1))
	if !bytes.Equal(b, kept) {
		t.Error("the argument was changed:", b)
	}
	q = decoded(t, b)
	clear(b)
	expect(t, q, api.Msg{Src: 5, Data: []byte("abc")})
}
