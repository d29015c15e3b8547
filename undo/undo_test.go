package undo_test

import (
	"bytes"
	"math"
	"slices"
	"testing"

	"ratoon/api"
	"ratoon/undo"
)

// counted returns an image whose neighbouring bytes are different, and not 0.
func counted(n int) []byte {
	b := make([]byte, n)
	for i := range b {
		b[i] = byte(i%251 + 1)
	}
	return b
}

// created returns a log without a transaction.
func created(t *testing.T, image []byte) *undo.Log {
	t.Helper()
	l, e := undo.New(image)
	if e != api.OK || l == nil {
		t.Fatalf("new log of %d bytes: error %d", len(image), e)
	}
	return l
}

// begun returns a log with a transaction.
func begun(t *testing.T, image []byte) *undo.Log {
	t.Helper()
	l := created(t, image)
	ok(t, l.Begin())
	return l
}

func ok(t *testing.T, e api.Errno) {
	t.Helper()
	if e != api.OK {
		t.Fatalf("error %d", e)
	}
}

// sameRecords compares lists; nil and empty ones are equal.
func sameRecords(a, b []undo.Record) bool {
	return slices.EqualFunc(a, b, func(x, y undo.Record) bool {
		return x.Offset == y.Offset && x.Len == y.Len && bytes.Equal(x.Old, y.Old)
	})
}

// expect compares all that a log shows.
func expect(t *testing.T, l *undo.Log, image []byte, records []undo.Record, open bool) {
	t.Helper()
	if got := l.Image(); !bytes.Equal(got, image) {
		t.Errorf("the image is %v instead of %v", got, image)
	}
	if got := l.Records(); !sameRecords(got, records) {
		t.Errorf("the records are %v instead of %v", got, records)
	}
	if got := l.Open(); got != open {
		t.Errorf("open: %t", got)
	}
}

// unchanged expects an error, and that the log is as before.
func unchanged(t *testing.T, name string, l *undo.Log, want api.Errno, call func() api.Errno) {
	t.Helper()
	image, records, open := l.Image(), l.Records(), l.Open()
	if e := call(); e != want {
		t.Errorf("%s: error %d instead of %d", name, e, want)
	}
	expect(t, l, image, records, open)
}

func TestP4_1New(t *testing.T) {
	for _, n := range []int{0, 1, 3, 128, api.MaxImage - 1, api.MaxImage} {
		expect(t, created(t, counted(n)), counted(n), nil, false)
	}
	expect(t, created(t, nil), nil, nil, false)
	for _, n := range []int{api.MaxImage + 1, 2 * api.MaxImage, 1 << 20} {
		if l, e := undo.New(counted(n)); l != nil || e != api.ErrLimit {
			t.Errorf("%d bytes: %v, error %d", n, l, e)
		}
	}
}

func TestP4_1NewCopiesTheImage(t *testing.T) {
	image := counted(5)
	l := begun(t, image)
	image[2] = 99
	expect(t, l, counted(5), nil, true)
	ok(t, l.Write(0, []byte{7, 7}))
	ok(t, l.Resize(2))
	ok(t, l.Resize(5))
	if !bytes.Equal(image, []byte{1, 2, 99, 4, 5}) {
		t.Error("the argument was changed:", image)
	}
}

func TestP4_1NewDoesNotUseTheMemoryBehindTheImage(t *testing.T) {
	image := counted(10)
	l := begun(t, image[:3])
	ok(t, l.Resize(10))
	if !bytes.Equal(image, counted(10)) {
		t.Error("the memory behind the argument was changed:", image)
	}
	expect(t, l, []byte{1, 2, 3, 0, 0, 0, 0, 0, 0, 0}, []undo.Record{{Offset: 3, Len: 3}}, true)
}

func TestP4_1BeginAgain(t *testing.T) {
	l := begun(t, counted(3))
	unchanged(t, "at once", l, api.ErrState, l.Begin)
	ok(t, l.Write(1, []byte{7}))
	unchanged(t, "behind a write", l, api.ErrState, l.Begin)
	ok(t, l.Back(0))
	unchanged(t, "behind Back", l, api.ErrState, l.Begin)
	ok(t, l.Commit())
	ok(t, l.Begin())
	unchanged(t, "behind another Begin", l, api.ErrState, l.Begin)
	ok(t, l.Rollback())
	ok(t, l.Begin())
	expect(t, l, counted(3), nil, true)
}

func TestP4_1NoTransaction(t *testing.T) {
	fresh, committed, rolled := created(t, counted(3)), begun(t, counted(3)), begun(t, counted(3))
	for _, l := range []*undo.Log{committed, rolled} {
		ok(t, l.Write(0, []byte{9, 9}))
		ok(t, l.Resize(2))
	}
	ok(t, committed.Commit())
	ok(t, rolled.Rollback())
	expect(t, committed, []byte{9, 9}, nil, false)
	expect(t, rolled, counted(3), nil, false)
	for _, l := range []*undo.Log{fresh, committed, rolled} {
		for name, call := range map[string]func() api.Errno{
			"Write":               func() api.Errno { return l.Write(0, []byte{8}) },
			"Write of nothing":    func() api.Errno { return l.Write(0, nil) },
			"Write, no range":     func() api.Errno { return l.Write(-1, counted(9)) },
			"Resize":              func() api.Errno { return l.Resize(1) },
			"Resize, negative":    func() api.Errno { return l.Resize(-1) },
			"Resize, too large":   func() api.Errno { return l.Resize(api.MaxImage + 1) },
			"Back":                func() api.Errno { return l.Back(0) },
			"Back, negative":      func() api.Errno { return l.Back(-1) },
			"Back, no such place": func() api.Errno { return l.Back(1) },
			"Commit":              l.Commit,
			"Rollback":            l.Rollback,
		} {
			unchanged(t, name, l, api.ErrState, call)
		}
	}
}

func TestP4_1Write(t *testing.T) {
	l := begun(t, counted(5))
	ok(t, l.Write(1, []byte{20, 30}))
	want := []undo.Record{{Offset: 1, Len: 5, Old: []byte{2, 3}}}
	expect(t, l, []byte{1, 20, 30, 4, 5}, want, true)
	ok(t, l.Write(2, []byte{31, 40, 50}))
	want = append(want, undo.Record{Offset: 2, Len: 5, Old: []byte{30, 4, 5}})
	expect(t, l, []byte{1, 20, 31, 40, 50}, want, true)
	// A write of the bytes that are there is a write like others.
	ok(t, l.Write(0, []byte{1}))
	want = append(want, undo.Record{Offset: 0, Len: 5, Old: []byte{1}})
	expect(t, l, []byte{1, 20, 31, 40, 50}, want, true)
}

func TestP4_1WriteOfNoBytes(t *testing.T) {
	for _, n := range []int{0, 1, 4} {
		for offset := range n + 1 {
			l := begun(t, counted(n))
			ok(t, l.Write(offset, nil))
			ok(t, l.Write(offset, []byte{}))
			expect(t, l, counted(n), []undo.Record{{Offset: offset, Len: n}, {Offset: offset, Len: n}}, true)
			ok(t, l.Rollback())
			expect(t, l, counted(n), nil, false)
		}
		for _, offset := range []int{-1, n + 1, math.MinInt, math.MaxInt} {
			l := begun(t, counted(n))
			unchanged(t, "no bytes", l, api.ErrRange, func() api.Errno { return l.Write(offset, nil) })
		}
	}
}

func TestP4_1WriteRange(t *testing.T) {
	for _, c := range []struct {
		size, offset, n int
		want            api.Errno
	}{
		{10, 0, 10, api.OK}, {10, 0, 1, api.OK}, {10, 9, 1, api.OK}, {10, 3, 7, api.OK},
		{10, 0, 11, api.ErrRange}, {10, 3, 8, api.ErrRange}, {10, 9, 2, api.ErrRange},
		{10, 10, 1, api.ErrRange}, {10, 11, 1, api.ErrRange}, {10, 1, 10, api.ErrRange},
		{10, -1, 1, api.ErrRange}, {10, -1, 5, api.ErrRange}, {10, -5, 5, api.ErrRange},
		{10, -1, 12, api.ErrRange}, {10, -5, 20, api.ErrRange},
		// The end of the range is no integer.
		{10, math.MaxInt, 1, api.ErrRange}, {10, math.MaxInt - 3, 8, api.ErrRange},
		{10, math.MinInt, 1, api.ErrRange}, {10, math.MinInt, 20, api.ErrRange},
		{0, 0, 1, api.ErrRange}, {0, -1, 1, api.ErrRange}, {0, 1, 1, api.ErrRange},
		{api.MaxImage, 0, api.MaxImage, api.OK}, {api.MaxImage, 1, api.MaxImage, api.ErrRange},
		{api.MaxImage, 0, api.MaxImage + 1, api.ErrRange}, {api.MaxImage, api.MaxImage - 1, 1, api.OK},
	} {
		l := begun(t, counted(c.size))
		b := bytes.Repeat([]byte{255}, c.n)
		if c.want != api.OK {
			unchanged(t, "Write", l, c.want, func() api.Errno { return l.Write(c.offset, b) })
			continue
		}
		ok(t, l.Write(c.offset, b))
		image := slices.Replace(counted(c.size), c.offset, c.offset+c.n, b...)
		old := counted(c.size)[c.offset : c.offset+c.n]
		expect(t, l, image, []undo.Record{{Offset: c.offset, Len: c.size, Old: old}}, true)
	}
}

func TestP4_1WriteLiesInTheImageOfNow(t *testing.T) {
	l := begun(t, counted(4))
	ok(t, l.Resize(2))
	unchanged(t, "cut off", l, api.ErrRange, func() api.Errno { return l.Write(1, []byte{7, 7}) })
	ok(t, l.Resize(6))
	ok(t, l.Write(5, []byte{7}))
	expect(t, l, []byte{1, 2, 0, 0, 0, 7}, []undo.Record{
		{Offset: 2, Len: 4, Old: []byte{3, 4}}, {Offset: 2, Len: 2}, {Offset: 5, Len: 6, Old: []byte{0}},
	}, true)
}

func TestP4_1WriteKeepsItsArgument(t *testing.T) {
	l := begun(t, counted(4))
	b := []byte{7, 8}
	ok(t, l.Write(1, b))
	b[0] = 9
	expect(t, l, []byte{1, 7, 8, 4}, []undo.Record{{Offset: 1, Len: 4, Old: []byte{2, 3}}}, true)
	ok(t, l.Write(1, []byte{5, 6}))
	ok(t, l.Rollback())
	if b[0] != 9 || b[1] != 8 {
		t.Error("the argument was changed:", b)
	}
}

func TestP4_1Resize(t *testing.T) {
	for _, c := range []struct {
		n      int
		record undo.Record
	}{
		{0, undo.Record{Offset: 0, Len: 5, Old: []byte{1, 2, 3, 4, 5}}},
		{1, undo.Record{Offset: 1, Len: 5, Old: []byte{2, 3, 4, 5}}},
		{4, undo.Record{Offset: 4, Len: 5, Old: []byte{5}}},
		{5, undo.Record{Offset: 5, Len: 5}},
		{6, undo.Record{Offset: 5, Len: 5}},
		{500, undo.Record{Offset: 5, Len: 5}},
		{api.MaxImage, undo.Record{Offset: 5, Len: 5}},
	} {
		l := begun(t, counted(5))
		ok(t, l.Resize(c.n))
		image := append(counted(min(c.n, 5)), make([]byte, max(0, c.n-5))...)
		expect(t, l, image, []undo.Record{c.record}, true)
	}
	l := begun(t, counted(5))
	for _, n := range []int{-1, -5, math.MinInt} {
		unchanged(t, "negative", l, api.ErrRange, func() api.Errno { return l.Resize(n) })
	}
	for _, n := range []int{api.MaxImage + 1, 2 * api.MaxImage, math.MaxInt} {
		unchanged(t, "too large", l, api.ErrLimit, func() api.Errno { return l.Resize(n) })
	}
	expect(t, l, counted(5), nil, true)
}

func TestP4_1ResizeOfEmptyAndLongImages(t *testing.T) {
	l := begun(t, nil)
	ok(t, l.Resize(0))
	ok(t, l.Resize(2))
	expect(t, l, []byte{0, 0}, []undo.Record{{}, {}}, true)
	l = begun(t, counted(api.MaxImage))
	ok(t, l.Resize(api.MaxImage))
	unchanged(t, "too large", l, api.ErrLimit, func() api.Errno { return l.Resize(api.MaxImage + 1) })
	ok(t, l.Resize(0))
	expect(t, l, nil, []undo.Record{{Offset: api.MaxImage, Len: api.MaxImage}, {Len: api.MaxImage, Old: counted(api.MaxImage)}}, true)
}

func TestP4_1ZerosAreAdded(t *testing.T) {
	// What was cut off does not come back when the image becomes longer.
	l := begun(t, counted(6))
	ok(t, l.Resize(2))
	ok(t, l.Resize(6))
	expect(t, l, []byte{1, 2, 0, 0, 0, 0}, []undo.Record{{Offset: 2, Len: 6, Old: []byte{3, 4, 5, 6}}, {Offset: 2, Len: 2}}, true)
	ok(t, l.Commit())
	ok(t, l.Begin())
	ok(t, l.Write(3, []byte{9}))
	ok(t, l.Resize(3))
	ok(t, l.Commit())
	ok(t, l.Begin())
	ok(t, l.Resize(5))
	expect(t, l, []byte{1, 2, 0, 0, 0}, []undo.Record{{Offset: 3, Len: 3}}, true)
}

func TestP4_1Back(t *testing.T) {
	l := begun(t, counted(3))
	unchanged(t, "negative", l, api.ErrRange, func() api.Errno { return l.Back(-1) })
	unchanged(t, "no such place", l, api.ErrRange, func() api.Errno { return l.Back(1) })
	ok(t, l.Back(0))
	expect(t, l, counted(3), nil, true)
	ok(t, l.Write(1, []byte{7, 8}))
	ok(t, l.Resize(1))
	ok(t, l.Resize(4))
	ok(t, l.Write(2, []byte{9}))
	records := []undo.Record{
		{Offset: 1, Len: 3, Old: []byte{2, 3}}, {Offset: 1, Len: 3, Old: []byte{7, 8}},
		{Offset: 1, Len: 1}, {Offset: 2, Len: 4, Old: []byte{0}},
	}
	images := [][]byte{{1, 2, 3}, {1, 7, 8}, {1}, {1, 0, 0, 0}, {1, 0, 9, 0}}
	for _, n := range []int{-1, 5, math.MinInt, math.MaxInt} {
		unchanged(t, "no such place", l, api.ErrRange, func() api.Errno { return l.Back(n) })
	}
	for n := 4; n >= 0; n-- {
		ok(t, l.Back(n))
		expect(t, l, images[n], records[:n], true)
		unchanged(t, "the record is gone", l, api.ErrRange, func() api.Errno { return l.Back(n + 1) })
	}
}

func TestP4_1BackIsFollowedByWrites(t *testing.T) {
	l := begun(t, counted(3))
	for i := range 6 {
		ok(t, l.Write(i%3, []byte{byte(10 + i)}))
	}
	ok(t, l.Back(2))
	expect(t, l, []byte{10, 11, 3}, []undo.Record{{0, 3, []byte{1}}, {1, 3, []byte{2}}}, true)
	ok(t, l.Write(2, []byte{90}))
	ok(t, l.Back(3))
	expect(t, l, []byte{10, 11, 90}, []undo.Record{{0, 3, []byte{1}}, {1, 3, []byte{2}}, {2, 3, []byte{3}}}, true)
	ok(t, l.Rollback())
	expect(t, l, counted(3), nil, false)
}

func TestP4_1CommitAndRollback(t *testing.T) {
	l := begun(t, counted(3))
	ok(t, l.Commit())
	expect(t, l, counted(3), nil, false)
	ok(t, l.Begin())
	ok(t, l.Rollback())
	expect(t, l, counted(3), nil, false)
	ok(t, l.Begin())
	ok(t, l.Write(0, []byte{7}))
	ok(t, l.Commit())
	expect(t, l, []byte{7, 2, 3}, nil, false)
	ok(t, l.Begin())
	expect(t, l, []byte{7, 2, 3}, nil, true)
	ok(t, l.Resize(1))
	ok(t, l.Rollback())
	expect(t, l, []byte{7, 2, 3}, nil, false)
}

func TestP4_1NilPointer(t *testing.T) {
	var l *undo.Log
	for name, e := range map[string]api.Errno{
		"Begin": l.Begin(), "Write": l.Write(0, nil), "Write, no range": l.Write(-1, nil),
		"Resize": l.Resize(0), "Resize, negative": l.Resize(-1), "Resize, too large": l.Resize(math.MaxInt),
		"Back": l.Back(0), "Back, negative": l.Back(-1), "Commit": l.Commit(), "Rollback": l.Rollback(),
	} {
		if e != api.ErrState {
			t.Errorf("%s: error %d", name, e)
		}
	}
	if l.Image() != nil || l.Records() != nil || l.Open() {
		t.Error("a nil pointer has no values")
	}
}

func TestP4_2ResultsAreIndependent(t *testing.T) {
	l := begun(t, counted(4))
	ok(t, l.Write(1, []byte{7, 8}))
	ok(t, l.Write(3, []byte{9}))
	image, records := l.Image(), l.Records()
	for _, b := range [][]byte{image, records[0].Old, records[1].Old} {
		b = b[:cap(b)]
		for i := range b {
			b[i] = 99
		}
	}
	records[0].Offset, records[1] = 3, undo.Record{}
	expect(t, l, []byte{1, 7, 8, 9}, []undo.Record{{1, 4, []byte{2, 3}}, {3, 4, []byte{4}}}, true)
	// What was returned does not follow the log either.
	image, records = l.Image(), l.Records()
	ok(t, l.Back(0))
	ok(t, l.Write(0, []byte{5, 5, 5}))
	if !bytes.Equal(image, []byte{1, 7, 8, 9}) || !sameRecords(records, []undo.Record{{1, 4, []byte{2, 3}}, {3, 4, []byte{4}}}) {
		t.Error("the results were changed:", image, records)
	}
}

func TestP4_2LogsAreIndependent(t *testing.T) {
	image := counted(3)
	a, b := begun(t, image), begun(t, image)
	ok(t, a.Write(0, []byte{7}))
	expect(t, b, counted(3), nil, true)
	ok(t, b.Resize(1))
	ok(t, a.Commit())
	expect(t, a, []byte{7, 2, 3}, nil, false)
	expect(t, b, []byte{1}, []undo.Record{{1, 3, []byte{2, 3}}}, true)
}

func TestP4_3Encode(t *testing.T) {
	for _, c := range []struct {
		l    []undo.Record
		want []byte
	}{
		{nil, []byte{0}},
		{[]undo.Record{}, []byte{0}},
		{[]undo.Record{{}}, []byte{2, 0, 0, 0}},
		{[]undo.Record{{1, 3, []byte{2, 3}}}, []byte{2, 2, 6, 4, 2, 3}},
		{[]undo.Record{{-1, 64, nil}, {0, -65, []byte{}}}, []byte{4, 1, 128, 1, 0, 0, 129, 1, 0}},
		{[]undo.Record{{math.MaxInt, math.MinInt, []byte{7}}}, []byte{2,
			254, 255, 255, 255, 255, 255, 255, 255, 255, 1, 255, 255, 255, 255, 255, 255, 255, 255, 255, 1, 2, 7}},
	} {
		if got := undo.Encode(c.l); !bytes.Equal(got, c.want) {
			t.Errorf("%v: %v instead of %v", c.l, got, c.want)
		}
		if got, e := undo.Decode(c.want); e != api.OK || !sameRecords(got, c.l) {
			t.Errorf("%v: %v, error %d", c.want, got, e)
		}
	}
}

func TestP4_3LargeRecords(t *testing.T) {
	// The limits of images and of messages are none of encodings.
	l := []undo.Record{{5, -7, counted(api.MaxBytes + 1)}, {}, {0, api.MaxImage + 1, counted(api.MaxImage + 1)}}
	for range 3000 {
		l = append(l, undo.Record{Len: 1})
	}
	if got, e := undo.Decode(undo.Encode(l)); e != api.OK || !sameRecords(got, l) {
		t.Errorf("%d records, error %d", len(got), e)
	}
}

func TestP4_3NotEncodings(t *testing.T) {
	whole := undo.Encode([]undo.Record{{1, 300, []byte{2, 3}}, {-500, 2, nil}, {0, 0, []byte{5}}})
	cases := [][]byte{
		nil, {}, {1}, {2}, {128}, {128, 0}, {0, 0}, {2, 0, 0}, {2, 0, 0, 0, 0}, {4, 0, 0, 0}, {1, 0, 0, 0},
		// The numbers have other encodings.
		{130, 0, 0, 0, 0}, {2, 128, 0, 0, 0}, {2, 0, 128, 0, 0}, {2, 0, 0, 128, 0},
		// Old has fewer bytes than its length says, or a negative number of them.
		{2, 0, 0, 2}, {2, 0, 0, 4, 9}, {2, 0, 0, 1}, {2, 0, 0, 3, 9},
		// The list is far longer than the bytes.
		{254, 255, 255, 255, 255, 255, 255, 255, 255, 1}, {254, 255, 255, 255, 255, 255, 255, 255, 255, 1, 0, 0, 0},
		{255, 255, 255, 255, 255, 255, 255, 255, 255, 1}, {128, 128, 128, 128, 16, 0, 0, 0, 0, 0, 0},
		{2, 0, 0, 254, 255, 255, 255, 255, 255, 255, 255, 255, 1, 9},
		append(slices.Clone(whole), 0), append(slices.Clone(whole), whole...),
	}
	for n := range len(whole) {
		cases = append(cases, whole[:n])
	}
	for _, b := range cases {
		kept := slices.Clone(b)
		if l, e := undo.Decode(b); e != api.ErrForm || len(l) != 0 {
			t.Errorf("%v: %v, error %d", b, l, e)
		}
		if !bytes.Equal(b, kept) {
			t.Errorf("%v was changed to %v", kept, b)
		}
	}
	if _, e := undo.Decode(whole); e != api.OK {
		t.Error(e)
	}
}

func TestP4_3LongListsWithoutElements(t *testing.T) {
	// Two records, and the beginning of a third one, instead of very many.
	b := append([]byte{128, 128, 128, 2, 0, 0, 0, 0, 0, 0, 2, 128}, bytes.Repeat([]byte{128}, 1<<22)...)
	n := testing.AllocsPerRun(3, func() {
		if l, e := undo.Decode(b); e != api.ErrForm || len(l) != 0 {
			t.Errorf("%d records, error %d", len(l), e)
		}
	})
	if n > 20 {
		t.Errorf("memory is taken %f times", n)
	}
}

func TestP4_3DecodeIsIndependent(t *testing.T) {
	b := undo.Encode([]undo.Record{{1, 3, []byte{2, 3}}, {0, 3, []byte{4}}})
	kept := slices.Clone(b)
	l, _ := undo.Decode(b)
	for _, r := range l {
		old := r.Old[:cap(r.Old)]
		for i := range old {
			old[i] = 99
		}
	}
	if !bytes.Equal(b, kept) {
		t.Error("the records share memory with the encoding:", b)
	}
	again, _ := undo.Decode(b)
	clear(b)
	if !sameRecords(again, []undo.Record{{1, 3, []byte{2, 3}}, {0, 3, []byte{4}}}) {
		t.Error("the records share memory with the encoding:", again)
	}
}

func TestP4_3Recover(t *testing.T) {
	for name, c := range map[string]struct {
		image []byte
		l     []undo.Record
		want  []byte
	}{
		"no records":            {[]byte{1, 2}, nil, []byte{1, 2}},
		"nothing":               {nil, nil, nil},
		"a record":              {[]byte{1, 7, 8}, []undo.Record{{1, 3, []byte{2, 3}}}, []byte{1, 2, 3}},
		"a record of no bytes":  {[]byte{1, 7}, []undo.Record{{2, 2, nil}}, []byte{1, 7}},
		"the image is cut":      {[]byte{1, 2, 3}, []undo.Record{{1, 1, nil}}, []byte{1}},
		"the image is cut off":  {[]byte{1, 2, 3}, []undo.Record{{0, 0, nil}}, nil},
		"zeros are added":       {[]byte{1}, []undo.Record{{3, 4, nil}}, []byte{1, 0, 0, 0}},
		"zeros, then bytes":     {[]byte{1}, []undo.Record{{2, 4, []byte{9}}}, []byte{1, 0, 9, 0}},
		"the last record first": {[]byte{5, 5}, []undo.Record{{0, 2, []byte{1, 2}}, {1, 2, []byte{9}}}, []byte{1, 2}},
		"and the first one last": {[]byte{5, 5}, []undo.Record{{1, 2, []byte{9}}, {0, 2, []byte{1, 2}}},
			[]byte{1, 9}},
		"cut and longer again": {[]byte{5, 6, 7}, []undo.Record{{1, 3, nil}, {1, 1, nil}}, []byte{5, 0, 0}},
		"longer and cut again": {[]byte{5}, []undo.Record{{1, 2, nil}, {3, 4, []byte{9}}}, []byte{5, 0}},
	} {
		got, e := undo.Recover(c.image, c.l)
		if e != api.OK || !bytes.Equal(got, c.want) {
			t.Errorf("%s: %v instead of %v, error %d", name, got, c.want, e)
		}
	}
}

func TestP4_3RecoverLimits(t *testing.T) {
	most := counted(api.MaxImage)
	for _, c := range []struct {
		image []byte
		l     []undo.Record
		want  []byte
	}{
		{nil, []undo.Record{{0, api.MaxImage, most}}, most},
		{most, []undo.Record{{api.MaxImage, api.MaxImage, nil}}, most},
		// No limit is named for the image.
		{counted(api.MaxImage + 9), nil, counted(api.MaxImage + 9)},
		{counted(api.MaxImage + 9), []undo.Record{{0, 3, []byte{7}}}, []byte{7, 2, 3}},
		{counted(api.MaxImage + 9), []undo.Record{{0, api.MaxImage, nil}}, most},
	} {
		if got, e := undo.Recover(c.image, c.l); e != api.OK || !bytes.Equal(got, c.want) {
			t.Errorf("%d bytes: %d bytes, error %d", len(c.image), len(got), e)
		}
	}
}

func TestP4_3RecordsThatFitNoImage(t *testing.T) {
	good := undo.Record{Offset: 1, Len: 3, Old: []byte{2, 3}}
	for name, r := range map[string]undo.Record{
		"negative length":       {0, -1, nil},
		"least length":          {0, math.MinInt, nil},
		"least length, bytes":   {0, math.MinInt, []byte{1}},
		"length too large":      {0, api.MaxImage + 1, nil},
		"greatest length":       {0, math.MaxInt, nil},
		"negative offset":       {-1, 3, nil},
		"negative offset, fits": {-1, 3, []byte{1, 2}},
		"least offset":          {math.MinInt, 3, nil},
		"offset behind the end": {4, 3, nil},
		"no place for a byte":   {3, 3, []byte{1}},
		"no place for bytes":    {2, 3, []byte{1, 2}},
		"more bytes than all":   {0, 3, []byte{1, 2, 3, 4}},
		"bytes of nothing":      {0, 0, []byte{1}},
		"greatest offset":       {math.MaxInt, 3, nil},
		"sum is no integer":     {math.MaxInt, 3, []byte{1, 2}},
		"sum, all greatest":     {math.MaxInt, api.MaxImage, []byte{1}},
		"too many bytes":        {0, api.MaxImage, counted(api.MaxImage + 1)},
		"long image and record": {0, api.MaxImage + 1, counted(api.MaxImage + 1)},
	} {
		for _, l := range [][]undo.Record{{r}, {good, r}, {r, good}, {good, r, good}} {
			image := counted(3)
			if got, e := undo.Recover(image, l); e != api.ErrArg || len(got) != 0 {
				t.Errorf("%s: %v, error %d", name, got, e)
			}
			if !bytes.Equal(image, counted(3)) {
				t.Errorf("%s: the argument was changed", name)
			}
		}
	}
}

func TestP4_3RecoverIsIndependent(t *testing.T) {
	image := counted(10)
	l := []undo.Record{{1, 3, []byte{7, 8}}, {4, 9, nil}}
	got, _ := undo.Recover(image[:5], l)
	got = got[:cap(got)]
	for i := range got {
		got[i] = 99
	}
	if !bytes.Equal(image, counted(10)) || !sameRecords(l, []undo.Record{{1, 3, []byte{7, 8}}, {4, 9, nil}}) {
		t.Error("the arguments were changed:", image, l)
	}
	// An image without records is copied as well.
	if got, _ = undo.Recover(image, nil); len(got) != 10 {
		t.Fatal(got)
	}
	got[0] = 99
	if image[0] != 1 {
		t.Error("the result is the argument")
	}
}
