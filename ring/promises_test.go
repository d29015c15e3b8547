package ring_test

import (
	"bytes"
	"math/rand"
	"slices"
	"testing"

	"ratoon/api"
	"ratoon/ring"
)

// a bytesRun has a byte queue, and keeps all that was put in and taken out.
type bytesRun struct {
	*ring.Bytes
	t       *testing.T
	x       *rand.Rand
	size    int
	in, out []byte
}

// held returns the bytes that are still in the queue.
func (r *bytesRun) held() []byte { return r.in[len(r.out):] }

func (r *bytesRun) put() {
	r.t.Helper()
	b := make([]byte, r.x.Intn(r.size+3))
	r.x.Read(b)
	n := min(len(b), r.size-len(r.held()))
	if got := r.Put(b); got != n {
		r.t.Fatalf("%d bytes were taken instead of %d", got, n)
	}
	r.in = append(r.in, b[:n]...)
	if n < len(b) && r.Free() != 0 {
		r.t.Fatalf("%d of %d bytes were taken, and there is room for %d", n, len(b), r.Free())
	}
}

func (r *bytesRun) take() {
	r.t.Helper()
	n := r.x.Intn(r.size+3) - 1
	b := r.Take(n)
	if len(b) != max(0, min(n, len(r.held()))) {
		r.t.Fatalf("Take(%d) returned %d bytes of %d", n, len(b), len(r.held()))
	}
	r.out = append(r.out, b...)
}

// check compares the queue with what was put in and taken out.
func (r *bytesRun) check() {
	r.t.Helper()
	all := append(slices.Clone(r.out), r.Peek(r.size)...)
	if !bytes.Equal(all, r.in) {
		r.t.Fatalf("%v were put in, and %v came out", r.in, all)
	}
	if r.Len() != len(r.held()) || r.Len()+r.Free() != r.size {
		r.t.Fatalf("%d bytes and room for %d: %d of %d bytes are held", r.Len(), r.Free(), len(r.held()), r.size)
	}
	c := byte(r.x.Intn(256))
	if len(r.held()) > 0 && r.x.Intn(2) == 0 {
		c = r.held()[r.x.Intn(len(r.held()))]
	}
	if i := r.Index(c); i != bytes.IndexByte(r.held(), c) {
		r.t.Fatalf("Index(%d) is %d in %v", c, i, r.held())
	}
}

// bytesRuns calls a function behind each of many calls.
func bytesRuns(t *testing.T, seed int64, each func(r *bytesRun)) {
	x := rand.New(rand.NewSource(seed))
	for _, size := range []int{1, 2, 3, 7, 64, 300, 4096} {
		for range 5 {
			r := &bytesRun{Bytes: newBytes(t, size), t: t, x: x, size: size}
			for range 60 {
				if x.Intn(2) == 0 {
					r.put()
				} else {
					r.take()
				}
				each(r)
			}
		}
	}
}

func TestP6_2OrderOfBytes(t *testing.T) {
	bytesRuns(t, 1, func(r *bytesRun) { r.check() })
}

func TestP6_3Room(t *testing.T) {
	bytesRuns(t, 2, func(r *bytesRun) {
		free := r.Free()
		if free+r.Len() != r.size {
			t.Fatal(r.Len(), "bytes, and room for", free)
		}
		q, e := ring.DecodeBytes(r.Encode())
		if e != api.OK {
			t.Fatal(e)
		}
		if n := q.Put(make([]byte, r.size+1)); n != free || q.Free() != 0 || q.Len() != r.size {
			t.Fatalf("%d bytes were taken, and there was room for %d", n, free)
		}
	})
}

func TestP6_4ByteQueuesAreDecodedBehindEachCall(t *testing.T) {
	bytesRuns(t, 3, func(r *bytesRun) {
		b := r.Encode()
		q, e := ring.DecodeBytes(b)
		if e != api.OK || !bytes.Equal(q.Encode(), b) {
			t.Fatalf("%v: error %d", b, e)
		}
		r.Bytes = q
		r.check()
	})
}

func TestP3EqualByteQueuesHaveEqualResults(t *testing.T) {
	var all [][]byte
	bytesRuns(t, 4, func(r *bytesRun) { all = append(all, r.Encode(), r.Peek(5)) })
	bytesRuns(t, 4, func(r *bytesRun) {
		if !bytes.Equal(r.Encode(), all[0]) || !bytes.Equal(r.Peek(5), all[1]) {
			t.Fatal("another result of the same calls")
		}
		all = all[2:]
	})
}

// a run has a message queue, and the messages that it has to have.
type run struct {
	*ring.Queue
	t     *testing.T
	x     *rand.Rand
	size  int
	count int // how many messages were made, so that no two are equal
	held  []api.Msg
}

func (r *run) put() {
	r.t.Helper()
	r.count++
	m := msg(r.x.Intn(4), r.count)
	if len(r.held) == r.size {
		refused(r.t, r.Queue, m)
		return
	}
	put(r.t, r.Queue, m)
	r.held = append(r.held, m)
}

func (r *run) take() {
	r.t.Helper()
	if len(r.held) == 0 {
		empty(r.t, r.Queue)
		return
	}
	take(r.t, r.Queue, r.held[0])
	r.held = r.held[1:]
}

func (r *run) drop() {
	r.t.Helper()
	src := r.x.Intn(5)
	var left []api.Msg
	for _, m := range r.held {
		if m.Src != src {
			left = append(left, m)
		}
	}
	if n := r.Drop(src); n != len(r.held)-len(left) {
		r.t.Fatalf("%d messages were dropped instead of %d", n, len(r.held)-len(left))
	}
	r.held = left
}

// step makes any call; puts is how many of ten are to put a message in.
func (r *run) step(puts int) {
	r.t.Helper()
	switch n := r.x.Intn(10); {
	case n < puts:
		r.put()
	case n == 9:
		r.drop()
	default:
		r.take()
	}
}

// runs calls a function behind each of many calls.
func runs(t *testing.T, seed int64, each func(r *run)) {
	x := rand.New(rand.NewSource(seed))
	for _, size := range []int{1, 2, 3, 7, 40, 200} {
		for _, puts := range []int{3, 5, 8} {
			r := &run{Queue: newQueue(t, size), t: t, x: x, size: size}
			for range 200 {
				r.step(puts)
				each(r)
			}
		}
	}
}

func TestP6_2OrderOfMessages(t *testing.T) {
	runs(t, 5, func(r *run) {
		expect(t, r.Queue, r.held...)
		if m, found := r.First(); found != (len(r.held) > 0) || found && !equalMsg(m, r.held[0]) {
			t.Fatal(m, found)
		}
	})
}

func TestP6_5DropLeavesTheOthers(t *testing.T) {
	runs(t, 6, func(r *run) {
		r.drop()
		expect(t, r.Queue, r.held...)
		r.put()
		r.put()
	})
}

func TestP6_4QueuesAreDecodedBehindEachCall(t *testing.T) {
	runs(t, 7, func(r *run) {
		b := r.Encode()
		r.Queue = decoded(t, b)
		if again := r.Encode(); !bytes.Equal(again, b) {
			t.Fatalf("%v is encoded as %v", b, again)
		}
	})
}

func TestP3EqualQueuesHaveEqualResults(t *testing.T) {
	var all [][]byte
	runs(t, 8, func(r *run) { all = append(all, r.Encode()) })
	runs(t, 8, func(r *run) {
		if !bytes.Equal(r.Encode(), all[0]) {
			t.Fatal("another result of the same calls")
		}
		all = all[1:]
	})
}

// checkCanonical decodes bytes as queues of both kinds, and expects that those
// that are accepted are what is encoded. It reports which of them were.
func checkCanonical(t *testing.T, b []byte) (asBytes, asQueue bool) {
	t.Helper()
	q, e := ring.DecodeBytes(b)
	checkDecoded(t, b, q != nil, e, q.Encode())
	m, other := ring.DecodeQueue(b)
	checkDecoded(t, b, m != nil, other, m.Encode())
	return e == api.OK, other == api.OK
}

func checkDecoded(t *testing.T, b []byte, found bool, e api.Errno, again []byte) {
	t.Helper()
	if e != api.OK && e != api.ErrForm || found != (e == api.OK) {
		t.Errorf("%v: %t, error %d", b, found, e)
	}
	if found && !bytes.Equal(again, b) {
		t.Errorf("%v is encoded as %v", b, again)
	}
}

func TestP6_4ShortBytesAreCanonical(t *testing.T) {
	asBytes := 0
	count := func(b ...byte) {
		if one, _ := checkCanonical(t, b); one {
			asBytes++
		}
	}
	count()
	last := []byte{0, 1, 2, 127, 128, 255}
	for i := range 256 {
		count(byte(i))
		for j := range 256 {
			count(byte(i), byte(j))
			for _, c := range last {
				count(byte(i), byte(j), c)
			}
		}
	}
	// Empty queues: 63 sizes of one byte, and those from 64 to 4096 of two.
	// Queues with one byte: 63 sizes of one byte.
	if want := 63 + 4033 + 63*len(last); asBytes != want {
		t.Errorf("%d encodings of byte queues instead of %d", asBytes, want)
	}
}

// change changes, takes out or puts in a byte.
func change(x *rand.Rand, b []byte) []byte {
	at := x.Intn(len(b))
	switch x.Intn(3) {
	case 0:
		b[at] ^= 1 << x.Intn(8)
	case 1:
		b = slices.Delete(b, at, at+1)
	case 2:
		b = slices.Insert(b, at, byte(x.Intn(256)))
	}
	return b
}

func TestP6_4ChangedEncodingsAreCanonical(t *testing.T) {
	x, asBytes, asQueues := rand.New(rand.NewSource(9)), 0, 0
	bytesRuns(t, 10, func(r *bytesRun) {
		if one, _ := checkCanonical(t, change(x, r.Encode())); one {
			asBytes++
		}
	})
	runs(t, 11, func(r *run) {
		if _, one := checkCanonical(t, change(x, r.Encode())); one {
			asQueues++
		}
	})
	if asBytes < 100 || asQueues < 100 {
		t.Errorf("only %d and %d changed encodings were encodings again", asBytes, asQueues)
	}
}

// The seeds run with every test; `go test -fuzz=Canonical ./ring` looks further.
func FuzzP6_4Canonical(f *testing.F) {
	f.Add([]byte{8, 6, 'd', 'x', 'y'})
	f.Add([]byte{6, 4, 14, 0, 0, 0, 0, 0, 0, 0, 0, 10, 18, 2, 128, 1, 1, 0, 4, 6, 2, 120})
	for _, b := range append(noByteQueues(), noQueues()...) {
		f.Add(b)
	}
	f.Fuzz(func(t *testing.T, b []byte) { checkCanonical(t, b) })
}
