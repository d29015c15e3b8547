package slots_test

import (
	"bytes"
	"math"
	"slices"
	"testing"

	"ratoon/api"
	"ratoon/slots"
)

func ok(t *testing.T, e api.Errno) {
	t.Helper()
	if e != api.OK {
		t.Fatalf("error %d", e)
	}
}

func created(t *testing.T, size int) *slots.Table {
	t.Helper()
	s, e := slots.New(size)
	if e != api.OK || s == nil {
		t.Fatalf("new table with the size %d: error %d", size, e)
	}
	return s
}

// put puts values, and expects their handles.
func put(t *testing.T, s *slots.Table, value int, handles ...int) {
	t.Helper()
	for _, want := range handles {
		if h, e := s.Put(value); h != want || e != api.OK {
			t.Fatalf("Put(%d): handle %d, error %d instead of handle %d", value, h, e, want)
		}
	}
}

func drop(t *testing.T, s *slots.Table, handles ...int) {
	t.Helper()
	for _, h := range handles {
		ok(t, s.Drop(h))
	}
}

// expect compares the handles of a table, and their values.
func expect(t *testing.T, s *slots.Table, handles []int, values ...int) {
	t.Helper()
	if got := s.Handles(); !slices.Equal(got, handles) {
		t.Fatalf("the handles are %v instead of %v", got, handles)
	}
	for i, h := range handles {
		if v, found := s.Get(h); v != values[i] || !found {
			t.Errorf("Get(%d): %d, %t instead of %d", h, v, found, values[i])
		}
	}
}

// full expects that no slot can be filled, and that trying changes nothing.
func full(t *testing.T, s *slots.Table) {
	t.Helper()
	before := s.Encode()
	if h, e := s.Put(7); h != 0 || e != api.ErrSpace {
		t.Errorf("Put: handle %d, error %d", h, e)
	}
	if !bytes.Equal(s.Encode(), before) {
		t.Error("Put changed the table")
	}
}

// unknown expects that there are no such handles, and that their use changes
// nothing.
func unknown(t *testing.T, s *slots.Table, handles ...int) {
	t.Helper()
	before := s.Encode()
	for _, h := range handles {
		if v, found := s.Get(h); v != 0 || found {
			t.Errorf("Get(%d): %d, %t", h, v, found)
		}
		if e := s.Set(h, 7); e != api.ErrNone {
			t.Errorf("Set(%d): error %d", h, e)
		}
		if e := s.Drop(h); e != api.ErrNone {
			t.Errorf("Drop(%d): error %d", h, e)
		}
	}
	if !bytes.Equal(s.Encode(), before) {
		t.Error("the table was changed")
	}
}

// far are numbers that are no handles in any table.
func far() []int {
	return []int{-1, -2, -200, math.MinInt, math.MinInt + 1, math.MaxInt, math.MaxInt - 1, 1 << 32, 200 * (slots.Most + 1)}
}

func TestP5_1New(t *testing.T) {
	for size := 1; size <= 200; size++ {
		s := created(t, size)
		expect(t, s, nil)
		unknown(t, s, 0, 1, size-1, size, size+1)
	}
	for _, size := range []int{0, -1, -200, 201, 202, 1000, math.MinInt, math.MaxInt} {
		if s, e := slots.New(size); s != nil || e != api.ErrRange {
			t.Errorf("size %d: %v, error %d", size, s, e)
		}
	}
	if slots.Most != 1000 {
		t.Error("the limit is another one")
	}
}

func TestP5_1PutFillsTheLeastNumberFirst(t *testing.T) {
	for _, size := range []int{1, 2, 3, 199, 200} {
		s := created(t, size)
		var handles, values []int
		for i := range size {
			put(t, s, 10*i, i)
			handles, values = append(handles, i), append(values, 10*i)
		}
		expect(t, s, handles, values...)
		full(t, s)
	}
}

func TestP5_1PutFillsTheLeastGenerationFirst(t *testing.T) {
	s := created(t, 3)
	put(t, s, 1, 0)
	drop(t, s, 0)
	put(t, s, 2, 1)
	drop(t, s, 1)
	// Slot 2 comes ahead of those that were used once, and then slot 0 of these.
	put(t, s, 3, 2, 3, 4)
	full(t, s)
	drop(t, s, 4, 3, 2)
	// Slot 2 is in the generation 1 and the others are in the generation 2.
	put(t, s, 4, 5, 6, 7)
	full(t, s)
	drop(t, s, 6)
	put(t, s, 5, 9)
	expect(t, s, []int{9, 7, 5}, 5, 4, 4)
}

func TestP5_1AnyValue(t *testing.T) {
	s := created(t, 5)
	values := []int{0, -1, math.MinInt, math.MaxInt, 1000}
	for i, v := range values {
		put(t, s, v, i)
	}
	expect(t, s, []int{0, 1, 2, 3, 4}, values...)
	for h := range values {
		ok(t, s.Set(h, values[4-h]))
	}
	slices.Reverse(values)
	expect(t, s, []int{0, 1, 2, 3, 4}, values...)
}

func TestP5_1NoSuchHandle(t *testing.T) {
	s := created(t, 3)
	unknown(t, s, append(far(), 0, 1, 2, 3)...)
	put(t, s, 8, 0, 1)
	drop(t, s, 0)
	put(t, s, 9, 2)
	// 0 was dropped, 3 is its slot's next one; 4, 5 and 6 are later ones.
	unknown(t, s, append(far(), 0, 3, 4, 5, 6, 3*slots.Most, 3*slots.Most+1)...)
	expect(t, s, []int{1, 2}, 8, 9)
	put(t, s, 7, 3)
	unknown(t, s, append(far(), 0, 4, 5, 6)...)
	drop(t, s, 3)
	unknown(t, s, 3)
	expect(t, s, []int{1, 2}, 8, 9)
}

func TestP5_1NegativeNumbersAreNoHandlesOfFilledSlots(t *testing.T) {
	s := created(t, 2)
	put(t, s, 8, 0, 1)
	unknown(t, s, -1, -2, -3, -4, math.MinInt, math.MinInt+1)
}

func TestP5_1HandlesAreInTheOrderOfTheSlots(t *testing.T) {
	s := created(t, 4)
	put(t, s, 1, 0, 1, 2, 3)
	drop(t, s, 1, 0)
	put(t, s, 2, 4)
	put(t, s, 3, 5)
	drop(t, s, 4, 2)
	expect(t, s, []int{5, 3}, 3, 1)
	put(t, s, 4, 6)
	put(t, s, 5, 8)
	expect(t, s, []int{8, 5, 6, 3}, 5, 3, 4, 1)
	drop(t, s, 3, 8, 6, 5)
	expect(t, s, nil)
}

func TestP5_1NilPointer(t *testing.T) {
	var s *slots.Table
	for _, h := range append(far(), 0, 1) {
		if put, e := s.Put(h); put != 0 || e != api.ErrState {
			t.Errorf("Put: %d, error %d", put, e)
		}
		if e := s.Set(h, 1); e != api.ErrState {
			t.Errorf("Set: error %d", e)
		}
		if e := s.Drop(h); e != api.ErrState {
			t.Errorf("Drop: error %d", e)
		}
		if v, found := s.Get(h); v != 0 || found {
			t.Errorf("Get: %d, %t", v, found)
		}
	}
	if s.Handles() != nil || s.Encode() != nil {
		t.Error("a nil pointer has no values")
	}
}

func TestP1ZeroTable(t *testing.T) {
	// New does not make such a table, but Go does.
	var s slots.Table
	expect(t, &s, nil)
	full(t, &s)
	unknown(t, &s, append(far(), 0, 1)...)
}

func TestP5_1ResultsAreIndependent(t *testing.T) {
	s := created(t, 3)
	put(t, s, 8, 0, 1)
	clear(s.Handles())
	clear(s.Encode())
	expect(t, s, []int{0, 1}, 8, 8)
	handles, b := s.Handles(), s.Encode()
	kept := slices.Clone(b)
	drop(t, s, 0)
	put(t, s, 9, 2)
	if !slices.Equal(handles, []int{0, 1}) || !bytes.Equal(b, kept) {
		t.Error("the results were changed:", handles, b)
	}
}

func TestP5_1TablesAreIndependent(t *testing.T) {
	a, b := created(t, 2), created(t, 2)
	put(t, a, 1, 0, 1)
	expect(t, b, nil)
	put(t, b, 5, 0)
	drop(t, b, 0)
	expect(t, a, []int{0, 1}, 1, 1)
}

func TestP5_1WornOut(t *testing.T) {
	s := created(t, 1)
	for g := range slots.Most {
		put(t, s, g, g)
		unknown(t, s, g-1, g+1)
		drop(t, s, g)
	}
	full(t, s)
	expect(t, s, nil)
	unknown(t, s, slots.Most-1, slots.Most, slots.Most+1)
}

func TestP5_1WornOutSlotsAreLeftOut(t *testing.T) {
	s := created(t, 2)
	put(t, s, -5, 0)
	// Slot 0 keeps its value, so that all others are put into slot 1.
	for g := range slots.Most {
		put(t, s, g, 2*g+1)
		full(t, s)
		drop(t, s, 2*g+1)
	}
	full(t, s)
	expect(t, s, []int{0}, -5)
	drop(t, s, 0)
	for g := 1; g < slots.Most; g++ {
		put(t, s, g, 2*g)
		full(t, s)
		drop(t, s, 2*g)
	}
	full(t, s)
	expect(t, s, nil)
}

func TestP5_4Encode(t *testing.T) {
	s := created(t, 3)
	expectBytes := func(want ...byte) {
		t.Helper()
		if got := s.Encode(); !bytes.Equal(got, want) {
			t.Errorf("%v instead of %v", got, want)
		}
	}
	expectBytes(6, 0, 0, 0, 0, 0, 0)
	put(t, s, -1, 0)
	put(t, s, 64, 1)
	expectBytes(6, 0, 1, 1, 0, 1, 128, 1, 0, 0)
	drop(t, s, 0)
	// The value that was dropped is gone.
	expectBytes(6, 2, 0, 0, 1, 128, 1, 0, 0)
	ok(t, s.Set(1, 0))
	put(t, s, 5, 2, 3)
	expectBytes(6, 2, 1, 10, 0, 1, 0, 0, 1, 10)
	drop(t, s, 3)
	expectBytes(6, 4, 0, 0, 1, 0, 0, 1, 10)
}

func TestP5_4EncodeLargeNumbers(t *testing.T) {
	s := created(t, 1)
	for g := range slots.Most {
		put(t, s, math.MinInt, g)
		drop(t, s, g)
	}
	if b := s.Encode(); !bytes.Equal(b, []byte{2, 208, 15, 0}) {
		t.Error(b)
	}
	if b := created(t, 200).Encode(); !bytes.Equal(b, append([]byte{144, 3}, make([]byte, 400)...)) {
		t.Error(b)
	}
}

func TestP5_4Decode(t *testing.T) {
	for _, c := range []struct {
		b               []byte
		handles, values []int
		next            int // the handle of the next value, or -1
	}{
		{[]byte{2, 0, 0}, nil, nil, 0},
		{[]byte{2, 0, 1, 0}, []int{0}, []int{0}, -1},
		{[]byte{4, 0, 0, 0, 1, 9}, []int{1}, []int{-5}, 0},
		{[]byte{4, 4, 0, 2, 0}, nil, nil, 3},
		{[]byte{4, 4, 1, 16, 2, 1, 18}, []int{4, 3}, []int{8, 9}, -1},
		// The greatest generation of a value is 999, and that of a slot is 1000.
		{[]byte{2, 206, 15, 0}, nil, nil, 999},
		{[]byte{2, 206, 15, 1, 2}, []int{999}, []int{1}, -1},
		{[]byte{2, 208, 15, 0}, nil, nil, -1},
		{[]byte{4, 208, 15, 0, 206, 15, 0}, nil, nil, 1999},
		{[]byte{2, 0, 1, 255, 255, 255, 255, 255, 255, 255, 255, 255, 1}, []int{0}, []int{math.MinInt}, -1},
	} {
		s, e := slots.Decode(c.b)
		if e != api.OK || s == nil {
			t.Fatalf("%v: error %d", c.b, e)
		}
		expect(t, s, c.handles, c.values...)
		if b := s.Encode(); !bytes.Equal(b, c.b) {
			t.Errorf("%v is encoded as %v", c.b, b)
		}
		if c.next < 0 {
			full(t, s)
			continue
		}
		put(t, s, 1, c.next)
	}
}

func TestP5_4DecodeAllSizes(t *testing.T) {
	for size := -3; size <= 210; size++ {
		head := []byte{byte(2 * size)}
		if size < 0 {
			head = []byte{byte(-2*size - 1)}
		} else if size >= 64 {
			head = []byte{byte(2*size)&127 | 128, byte(2 * size >> 7)}
		}
		b := append(head, make([]byte, max(0, 2*size))...)
		s, e := slots.Decode(b)
		if size < 1 || size > 200 {
			if s != nil || e != api.ErrForm {
				t.Errorf("size %d: error %d", size, e)
			}
			continue
		}
		if e != api.OK || !bytes.Equal(s.Encode(), created(t, size).Encode()) {
			t.Errorf("size %d: error %d", size, e)
		}
	}
}

// noTables are bytes that are no encodings.
func noTables() [][]byte {
	whole := []byte{6, 2, 1, 10, 206, 15, 1, 128, 1, 208, 15, 0}
	l := [][]byte{
		// Sizes: 0, -1, 201, the least and the greatest ones, and other encodings of 1.
		nil, {}, {0}, {0, 0, 0}, {1}, {1, 0, 0}, append([]byte{146, 3}, make([]byte, 402)...),
		{255, 255, 255, 255, 255, 255, 255, 255, 255, 1, 0, 0}, {254, 255, 255, 255, 255, 255, 255, 255, 255, 1, 0, 0},
		{130, 0, 0, 0}, {128, 0, 0}, {128},
		// Generations: -1, 1001, the least and the greatest ones, and another encoding of 0.
		{2, 1, 0}, {2, 1, 1, 0}, {2, 210, 15, 0}, {2, 210, 15, 1, 0}, {2, 128, 0, 0},
		{2, 255, 255, 255, 255, 255, 255, 255, 255, 255, 1, 0}, {2, 254, 255, 255, 255, 255, 255, 255, 255, 255, 1, 0},
		// A value in the generation 1000, in any slot.
		{2, 208, 15, 1, 0}, {4, 208, 15, 1, 0, 0, 0}, {4, 0, 0, 208, 15, 1, 0},
		// Booleans: 2, 255, and one of two bytes.
		{2, 0, 2}, {2, 0, 2, 0}, {2, 0, 255, 0}, {2, 0, 129, 0, 0}, {2, 0, 128, 0},
		// Values: none, one of an empty slot, another encoding of 0, no integer.
		{2, 0, 1}, {2, 0, 0, 0}, {2, 0, 1, 128, 0}, {2, 0, 1, 255, 255, 255, 255, 255, 255, 255, 255, 255, 3},
		// One slot too few, and one too many.
		{4, 0, 0}, {2, 0, 0, 0, 0}, append([]byte{144, 3}, make([]byte, 398)...), append([]byte{144, 3}, make([]byte, 402)...),
		append(slices.Clone(whole), 0), append(slices.Clone(whole), whole...),
	}
	for n := range len(whole) {
		l = append(l, whole[:n])
	}
	return l
}

func TestP5_4NotEncodings(t *testing.T) {
	for _, b := range noTables() {
		kept := slices.Clone(b)
		if s, e := slots.Decode(b); s != nil || e != api.ErrForm {
			t.Errorf("%v: %v, error %d", b, s, e)
		}
		if !bytes.Equal(b, kept) {
			t.Errorf("%v was changed to %v", kept, b)
		}
	}
	if _, e := slots.Decode([]byte{6, 2, 1, 10, 206, 15, 1, 128, 1, 208, 15, 0}); e != api.OK {
		t.Error(e)
	}
}

func TestP5_4DecodeIsIndependent(t *testing.T) {
	b := []byte{4, 2, 1, 10, 0, 0}
	kept := slices.Clone(b)
	s, e := slots.Decode(b)
	ok(t, e)
	put(t, s, 9, 1)
	drop(t, s, 2)
	if !bytes.Equal(b, kept) {
		t.Error("the argument was changed:", b)
	}
	s, e = slots.Decode(b)
	ok(t, e)
	clear(b)
	expect(t, s, []int{2}, 5)
}

func TestP5_1Examples(t *testing.T) {
	s := created(t, 2)
	put(t, s, 50, 0)
	put(t, s, 51, 1)
	drop(t, s, 0)
	put(t, s, 52, 2)
	full(t, s)
	expect(t, s, []int{2, 1}, 52, 51)
}
