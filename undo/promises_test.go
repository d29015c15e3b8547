package undo_test

import (
	"bytes"
	"math/rand"
	"slices"
	"testing"

	"ratoon/api"
	"ratoon/undo"
)

// sizes are lengths of images.
func sizes() []int {
	return []int{0, 1, 2, 5, 40, 128, 300, api.MaxImage - 1, api.MaxImage}
}

func randomBytes(x *rand.Rand, n int) []byte {
	b := make([]byte, n)
	x.Read(b)
	return b
}

// a run has a log, and computes with copies what its image and records are.
type run struct {
	*undo.Log
	t *testing.T
	x *rand.Rand
	// The images behind 0, 1, 2, .. writes and resizings, and their records.
	images  [][]byte
	records []undo.Record
}

func newRun(t *testing.T, x *rand.Rand) *run {
	image := randomBytes(x, sizes()[x.Intn(len(sizes()))])
	return &run{Log: begun(t, image), t: t, x: x, images: [][]byte{image}}
}

// now returns a copy of the image.
func (r *run) now() []byte { return slices.Clone(r.images[len(r.images)-1]) }

// write writes some bytes, and returns their offset and number.
func (r *run) write() (offset, n int) {
	next := r.now()
	offset = r.x.Intn(len(next) + 1)
	n = r.x.Intn(min(len(next)-offset, 50) + 1)
	b := randomBytes(r.x, n)
	ok(r.t, r.Write(offset, b))
	r.records = append(r.records, undo.Record{Offset: offset, Len: len(next), Old: slices.Clone(next[offset : offset+n])})
	copy(next[offset:], b)
	r.images = append(r.images, next)
	return offset, n
}

// resize makes the image shorter or longer.
func (r *run) resize() {
	old := r.now()
	n := min(r.x.Intn(2*len(old)+10), api.MaxImage)
	if r.x.Intn(8) == 0 {
		n = sizes()[r.x.Intn(len(sizes()))]
	}
	ok(r.t, r.Resize(n))
	k := min(n, len(old))
	r.records = append(r.records, undo.Record{Offset: k, Len: len(old), Old: old[k:]})
	next := make([]byte, n)
	copy(next, old)
	r.images = append(r.images, next)
}

// change writes or resizes.
func (r *run) change() {
	if r.x.Intn(3) == 0 {
		r.resize()
		return
	}
	r.write()
}

// back takes changes back.
func (r *run) back(n int) {
	ok(r.t, r.Back(n))
	r.images, r.records = r.images[:n+1], r.records[:n]
}

// check compares the log with the copies.
func (r *run) check(open bool) {
	r.t.Helper()
	expect(r.t, r.Log, r.now(), r.records, open)
	if r.t.Failed() {
		r.t.FailNow()
	}
}

// runs calls a function with logs behind some changes.
func runs(t *testing.T, seed int64, number int, each func(r *run)) {
	x := rand.New(rand.NewSource(seed))
	for range number {
		r := newRun(t, x)
		for range x.Intn(12) {
			r.change()
			r.check(true)
		}
		each(r)
	}
}

func recovered(t *testing.T, image []byte, l []undo.Record) []byte {
	t.Helper()
	b, e := undo.Recover(image, l)
	if e != api.OK {
		t.Fatalf("%d bytes, %v: error %d", len(image), l, e)
	}
	return b
}

func TestP4_4Rollback(t *testing.T) {
	runs(t, 4, 400, func(r *run) {
		ok(t, r.Rollback())
		r.images, r.records = r.images[:1], nil
		r.check(false)
	})
}

func TestP4_4Back(t *testing.T) {
	runs(t, 5, 400, func(r *run) {
		for range r.x.Intn(4) {
			r.back(r.x.Intn(len(r.records) + 1))
			r.check(true)
			for range r.x.Intn(4) {
				r.change()
				r.check(true)
			}
		}
		ok(t, r.Rollback())
		expect(t, r.Log, r.images[0], nil, false)
	})
}

func TestP4_4RecordsLeadToTheImageAtBegin(t *testing.T) {
	runs(t, 6, 400, func(r *run) {
		for n := range r.images {
			if got := recovered(t, r.images[n], r.records[:n]); !bytes.Equal(got, r.images[0]) {
				t.Fatalf("behind %d changes: %d bytes", n, len(got))
			}
		}
	})
}

// torn returns the image of a writer that has stopped: of the n bytes of its
// range, only those that arrive are the next image's.
func torn(before, next []byte, offset, n int, arrives func(int) bool) []byte {
	image := slices.Clone(before)
	for i := range n {
		if arrives(i) {
			image[offset+i] = next[offset+i]
		}
	}
	return image
}

func TestP4_5TornWrites(t *testing.T) {
	runs(t, 7, 300, func(r *run) {
		before := r.now()
		offset, n := r.write()
		next, records := r.Image(), r.Records()
		check := func(arrives func(int) bool) {
			image := torn(before, next, offset, n, arrives)
			if got := recovered(t, image, records); !bytes.Equal(got, r.images[0]) {
				t.Fatalf("%d bytes at %d, %d changes before", n, offset, len(records)-1)
			}
		}
		for k := range n + 1 {
			check(func(i int) bool { return i < k })
			check(func(i int) bool { return i >= k })
			check(func(i int) bool { return i == k })
			check(func(int) bool { return r.x.Intn(2) == 0 })
		}
	})
}

func TestP4_5RecordsOutliveTheirEncoding(t *testing.T) {
	runs(t, 8, 200, func(r *run) {
		records, e := undo.Decode(undo.Encode(r.Records()))
		ok(t, e)
		if !sameRecords(records, r.records) || !bytes.Equal(recovered(t, r.Image(), records), r.images[0]) {
			t.Fatalf("%v instead of %v", records, r.records)
		}
	})
}

func TestP4_6AgainChangesNothing(t *testing.T) {
	runs(t, 9, 300, func(r *run) {
		once := recovered(t, r.Image(), r.Records())
		if again := recovered(t, once, r.Records()); !bytes.Equal(again, once) {
			t.Fatalf("%v", r.records)
		}
	})
}

// randomRecords returns records that need not be those of a log.
func randomRecords(x *rand.Rand, most int) []undo.Record {
	l := make([]undo.Record, x.Intn(5))
	for i := range l {
		n := x.Intn(most + 1)
		offset := x.Intn(n + 1)
		l[i] = undo.Record{Offset: offset, Len: n, Old: randomBytes(x, x.Intn(n-offset+1))}
	}
	return l
}

// slowlyRecovered takes records back byte by byte.
func slowlyRecovered(image []byte, l []undo.Record) []byte {
	for k := len(l) - 1; k >= 0; k-- {
		next := make([]byte, l[k].Len)
		for i := range next {
			if i < len(image) {
				next[i] = image[i]
			}
			if j := i - l[k].Offset; j >= 0 && j < len(l[k].Old) {
				next[i] = l[k].Old[j]
			}
		}
		image = next
	}
	return image
}

func TestP4_6AnyRecords(t *testing.T) {
	x := rand.New(rand.NewSource(10))
	for range 3000 {
		l, image := randomRecords(x, 12), randomBytes(x, x.Intn(15))
		once := recovered(t, image, l)
		if want := slowlyRecovered(image, l); !bytes.Equal(once, want) {
			t.Fatalf("%v with %v: %v instead of %v", image, l, once, want)
		}
		if again := recovered(t, once, l); !bytes.Equal(again, once) {
			t.Fatalf("%v with %v: %v, then %v", image, l, once, again)
		}
	}
}

func TestP4_7Commit(t *testing.T) {
	runs(t, 11, 300, func(r *run) {
		for range 3 {
			ok(t, r.Commit())
			committed := r.now()
			r.images, r.records = [][]byte{committed}, nil
			r.check(false)
			ok(t, r.Begin())
			for range r.x.Intn(6) {
				r.change()
			}
			r.check(true)
			ok(t, r.Rollback())
			expect(t, r.Log, committed, nil, false)
			ok(t, r.Begin())
			r.images, r.records = r.images[:1], nil
			for range r.x.Intn(3) {
				r.change()
			}
		}
	})
}

func TestP3EqualLogsHaveEqualResults(t *testing.T) {
	a, b := newRun(t, rand.New(rand.NewSource(12))), newRun(t, rand.New(rand.NewSource(12)))
	for range 50 {
		a.change()
		undo.Recover(counted(5), []undo.Record{{0, 9, counted(9)}})
		b.change()
		expect(t, a.Log, b.Image(), b.Records(), b.Open())
	}
}

func TestExamples(t *testing.T) {
	l := begun(t, []byte{1, 2, 3})
	ok(t, l.Write(1, []byte{7, 8}))
	expect(t, l, []byte{1, 7, 8}, []undo.Record{{Offset: 1, Len: 3, Old: []byte{2, 3}}}, true)
	if got := recovered(t, []byte{1, 7, 3}, l.Records()); !bytes.Equal(got, []byte{1, 2, 3}) {
		t.Error(got)
	}
}

func FuzzP4_3Canonical(f *testing.F) {
	f.Add([]byte{0})
	f.Add(undo.Encode([]undo.Record{{1, 3, []byte{2, 3}}, {-1, 1 << 40, nil}}))
	f.Fuzz(func(t *testing.T, b []byte) {
		l, e := undo.Decode(b)
		if e == api.OK && !bytes.Equal(undo.Encode(l), b) || e != api.OK && (e != api.ErrForm || len(l) != 0) {
			t.Errorf("%v: %v, error %d", b, l, e)
		}
		image, e := undo.Recover(b, l)
		if e == api.OK && !bytes.Equal(image, slowlyRecovered(b, l)) || e != api.OK && (e != api.ErrArg || len(image) != 0) {
			t.Errorf("%v with %v: %v, error %d", b, l, image, e)
		}
	})
}
