package slots_test

import (
	"bytes"
	"math/rand"
	"slices"
	"testing"

	"ratoon/api"
	"ratoon/slots"
)

// a run has a table, and computes with a map what it contains. As the handle of
// a slot grows by the size with its generation, the slot that is filled next is
// the one whose next handle is the least.
type run struct {
	*slots.Table
	t      *testing.T
	x      *rand.Rand
	next   []int       // for each slot its handle, or that of its next value
	values map[int]int // for each handle its value
	given  map[int]bool
}

func newRun(t *testing.T, x *rand.Rand, size int) *run {
	r := &run{Table: created(t, size), t: t, x: x, values: map[int]int{}, given: map[int]bool{}}
	for i := range size {
		r.next = append(r.next, i)
	}
	return r
}

// least returns the handle that the next value gets, or -1.
func (r *run) least() int {
	least := -1
	for _, h := range r.next {
		_, used := r.values[h]
		if !used && h < slots.Most*len(r.next) && (least < 0 || h < least) {
			least = h
		}
	}
	return least
}

// put puts a value, if there is a place, and expects that its handle is new.
func (r *run) put() {
	r.t.Helper()
	value, want := r.x.Int()-r.x.Int(), r.least()
	h, e := r.Put(value)
	if want < 0 {
		if h != 0 || e != api.ErrSpace {
			r.t.Fatalf("a full table: handle %d, error %d", h, e)
		}
		return
	}
	if h != want || e != api.OK {
		r.t.Fatalf("handle %d, error %d instead of %d", h, e, want)
	}
	if r.given[h] {
		r.t.Fatalf("the handle %d was returned before", h)
	}
	r.values[h], r.given[h] = value, true
}

// any returns a handle of now, or one that was given, or some number.
func (r *run) any() int {
	if l := r.handles(); len(l) > 0 && r.x.Intn(4) > 0 {
		return l[r.x.Intn(len(l))]
	}
	h := r.next[r.x.Intn(len(r.next))]
	return h + (r.x.Intn(3)-1)*len(r.next)
}

func (r *run) set() {
	r.t.Helper()
	h, value := r.any(), r.x.Int()
	_, used := r.values[h]
	if e := r.Set(h, value); (e == api.OK) != used || e != api.OK && e != api.ErrNone {
		r.t.Fatalf("Set(%d): error %d", h, e)
	}
	if used {
		r.values[h] = value
	}
}

func (r *run) drop(h int) {
	r.t.Helper()
	_, used := r.values[h]
	if e := r.Drop(h); (e == api.OK) != used || e != api.OK && e != api.ErrNone {
		r.t.Fatalf("Drop(%d): error %d", h, e)
	}
	if used {
		delete(r.values, h)
		r.next[h%len(r.next)] += len(r.next)
	}
}

// step makes any call.
func (r *run) step(puts int) {
	r.t.Helper()
	switch n := r.x.Intn(10); {
	case n < puts:
		r.put()
	case n == 9:
		r.set()
	default:
		r.drop(r.any())
	}
}

// handles returns the handles of the map in the order of the slots.
func (r *run) handles() []int {
	var l []int
	for _, h := range r.next {
		if _, used := r.values[h]; used {
			l = append(l, h)
		}
	}
	return l
}

// check compares the table with the map.
func (r *run) check() {
	r.t.Helper()
	handles := r.handles()
	if got := r.Handles(); !slices.Equal(got, handles) {
		r.t.Fatalf("the handles are %v instead of %v", got, handles)
	}
	size := len(r.next)
	for _, h := range r.next {
		for _, h := range []int{h - 2*size, h - size, h, h + size, h % size} {
			want, used := r.values[h]
			if v, found := r.Get(h); v != want || found != used {
				r.t.Fatalf("Get(%d): %d, %t instead of %d, %t", h, v, found, want, used)
			}
		}
	}
}

// again replaces the table by the one with its encoding.
func (r *run) again() {
	r.t.Helper()
	b := r.Encode()
	s, e := slots.Decode(b)
	if e != api.OK || !bytes.Equal(s.Encode(), b) {
		r.t.Fatalf("%v: error %d", b, e)
	}
	r.Table = s
}

// runs calls a function behind each of many calls.
func runs(t *testing.T, seed int64, each func(r *run)) {
	x := rand.New(rand.NewSource(seed))
	for _, size := range []int{1, 2, 3, 7, 40, 199, 200} {
		for _, puts := range []int{2, 5, 8} {
			r := newRun(t, x, size)
			for range 300 {
				r.step(puts)
				each(r)
			}
		}
	}
}

func TestP5_3Map(t *testing.T) {
	runs(t, 1, func(r *run) { r.check() })
}

func TestP5_4TablesAreDecodedBehindEachCall(t *testing.T) {
	runs(t, 2, func(r *run) {
		r.again()
		r.check()
	})
}

func TestP5_5HeldAtTheSameTime(t *testing.T) {
	runs(t, 3, func(r *run) {
		held := len(r.Handles())
		if held > len(r.next) {
			t.Fatal(held, "values in", len(r.next), "slots")
		}
		s, e := slots.Decode(r.Encode())
		ok(t, e)
		if _, e := s.Put(1); (e == api.OK) != (held < len(r.next)) {
			t.Fatalf("%d values in %d slots, error %d", held, len(r.next), e)
		}
	})
}

// All handles of a table are given out, each of them once.
func TestP5_2UntilAllIsWornOut(t *testing.T) {
	x := rand.New(rand.NewSource(4))
	for _, size := range []int{1, 2, 3, 20} {
		r := newRun(t, x, size)
		for len(r.given) < slots.Most*size || len(r.values) > 0 {
			r.step(5)
			if x.Intn(100) == 0 {
				r.again()
			}
		}
		r.check()
		full(t, r.Table)
		if len(r.Handles()) != 0 {
			t.Error("values in worn out slots:", r.Handles())
		}
	}
}

func TestP5_2LargestTable(t *testing.T) {
	s := created(t, 200)
	for g := range slots.Most {
		for i := range 200 {
			put(t, s, i, 200*g+i)
		}
		full(t, s)
		for i := range 200 {
			drop(t, s, 200*g+(i+g)%200)
		}
	}
	full(t, s)
	expect(t, s, nil)
}

// With one slot worn out there is room for fewer values than the size says.
func TestP5_5WornOutSlots(t *testing.T) {
	s, e := slots.Decode([]byte{8, 208, 15, 0, 0, 0, 208, 15, 0, 206, 15, 0})
	ok(t, e)
	put(t, s, 1, 1)
	put(t, s, 2, 3999)
	full(t, s)
	drop(t, s, 3999)
	full(t, s)
	drop(t, s, 1)
	put(t, s, 3, 5)
	full(t, s)
	expect(t, s, []int{5}, 3)
}

func TestP3EqualTablesHaveEqualResults(t *testing.T) {
	a := newRun(t, rand.New(rand.NewSource(5)), 9)
	b := newRun(t, rand.New(rand.NewSource(5)), 9)
	for range 500 {
		a.step(6)
		slots.Decode([]byte{2, 0, 1, 0})
		b.step(6)
		if !bytes.Equal(a.Encode(), b.Encode()) || !slices.Equal(a.Handles(), b.Handles()) {
			t.Fatal(a.Encode(), b.Encode())
		}
	}
}

// checkCanonical decodes bytes, and expects that those that are accepted are
// what is encoded. It reports whether they were.
func checkCanonical(t *testing.T, b []byte) bool {
	t.Helper()
	s, e := slots.Decode(b)
	if e == api.OK && s != nil {
		if again := s.Encode(); !bytes.Equal(again, b) {
			t.Errorf("%v is encoded as %v", b, again)
		}
		return true
	}
	if e != api.ErrForm || s != nil {
		t.Errorf("%v: %v, error %d", b, s, e)
	}
	return false
}

// tables returns how many encodings of tables there are with n bytes, all of
// which are less than 128, for so many slots (a generation is one byte then).
func tables(slots, n int) int {
	switch {
	case n < 2*slots:
		return 0
	case slots == 0 && n > 0:
		return 0
	case slots == 0:
		return 1
	}
	// A generation is an even number, and a value is any one.
	return 64 * (tables(slots-1, n-2) + 128*tables(slots-1, n-3))
}

func TestP5_4ShortBytesAreCanonical(t *testing.T) {
	for _, size := range []int{1, 2} {
		for n := 1; n <= 3; n++ {
			accepted := 0
			b := make([]byte, n+1)
			b[0] = byte(2 * size)
			for i := range 1 << (7 * n) {
				for j := range n {
					b[j+1] = byte(i >> (7 * j) & 127)
				}
				if checkCanonical(t, b) {
					accepted++
				}
			}
			if want := tables(size, n); accepted != want {
				t.Errorf("%d bytes for %d slots: %d encodings instead of %d", n, size, accepted, want)
			}
		}
	}
}

func TestP5_4ChangedEncodingsAreCanonical(t *testing.T) {
	x, accepted := rand.New(rand.NewSource(6)), 0
	runs(t, 7, func(r *run) {
		b := r.Encode()
		at := x.Intn(len(b))
		switch x.Intn(3) {
		case 0:
			b[at] ^= 1 << x.Intn(8)
		case 1:
			b = slices.Delete(b, at, at+1)
		case 2:
			b = slices.Insert(b, at, byte(x.Intn(256)))
		}
		if checkCanonical(t, b) {
			accepted++
		}
	})
	if accepted < 100 {
		t.Error("only", accepted, "changed encodings were encodings again")
	}
}

// The seeds run with every test; `go test -fuzz=Canonical ./slots` looks further.
func FuzzP5_4Canonical(f *testing.F) {
	f.Add([]byte{2, 0, 0})
	f.Add([]byte{6, 2, 1, 10, 206, 15, 1, 128, 1, 208, 15, 0})
	for _, b := range noTables() {
		f.Add(b)
	}
	f.Fuzz(func(t *testing.T, b []byte) { checkCanonical(t, b) })
}
