package extent_test

import (
	"bytes"
	"math/rand"
	"slices"
	"testing"

	"ratoon/api"
	"ratoon/extent"
)

// bits returns the bits of a bitmap, as the chapter defines them.
func bits(b []byte) []bool {
	var all []bool
	for _, c := range b {
		for value := 1; value < 256; value *= 2 {
			all = append(all, int(c)/value%2 == 1)
		}
	}
	return all
}

// randomBitmap returns a bitmap in which few, many or half of the bits are set.
func randomBitmap(x *rand.Rand) []byte {
	b := make([]byte, x.Intn(12))
	x.Read(b)
	more := make([]byte, len(b))
	x.Read(more)
	how := x.Intn(4)
	for i := range b {
		switch how {
		case 0:
			b[i] &= more[i]
		case 1:
			b[i] |= more[i]
		case 2:
			b[i] = 0
		}
	}
	return b
}

// ranges calls a function with bitmaps, and ranges of them that are valid.
func ranges(seed int64, check func(x *rand.Rand, b []byte, from, to int)) {
	x := rand.New(rand.NewSource(seed))
	for range 20000 {
		b := randomBitmap(x)
		from := x.Intn(8*len(b) + 1)
		check(x, b, from, from+x.Intn(8*len(b)+1-from))
	}
}

// clearOnes returns the indices of the clear bits of a range.
func clearOnes(b []byte, from, to int) []int {
	var list []int
	for i, set := range bits(b) {
		if !set && i >= from && i < to {
			list = append(list, i)
		}
	}
	return list
}

// firstFit returns the least index from which on all n bits are among the given ones, or -1.
func firstFit(clear []int, n int) int {
	for _, at := range clear {
		fits := true
		for i := range n {
			fits = fits && slices.Contains(clear, at+i)
		}
		if fits {
			return at
		}
	}
	return -1
}

// changes returns the indices of the bits that two bitmaps do not have in common.
func changes(t *testing.T, a, b []byte) []int {
	t.Helper()
	if len(a) != len(b) {
		t.Fatalf("%d bytes instead of %d", len(b), len(a))
	}
	var list []int
	after := bits(b)
	for i, set := range bits(a) {
		if set != after[i] {
			list = append(list, i)
		}
	}
	return list
}

func TestP7_1CountsAreThoseOfTheBits(t *testing.T) {
	ranges(1, func(x *rand.Rand, b []byte, from, to int) {
		for i, set := range bits(b) {
			if extent.Get(b, i) != set {
				t.Fatalf("%08b: bit %d is %t", b, i, !set)
			}
		}
		if n := extent.Count(b); n != 8*len(b)-len(clearOnes(b, 0, 8*len(b))) {
			t.Fatalf("%08b: %d set bits", b, n)
		}
		if n, e := extent.Clear(b, from, to); e != api.OK || n != len(clearOnes(b, from, to)) {
			t.Fatalf("%08b, %d to %d: %d clear bits, error %d", b, from, to, n, e)
		}
	})
}

func TestP7_1SetChangesOneBit(t *testing.T) {
	ranges(2, func(x *rand.Rand, b []byte, i, _ int) {
		if i == 8*len(b) {
			return
		}
		for _, on := range []bool{false, true} {
			next, e := extent.Set(b, i, on)
			if e != api.OK {
				t.Fatalf("%08b, bit %d: error %d", b, i, e)
			}
			var want []int
			if extent.Get(b, i) != on {
				want = []int{i}
			}
			if got := changes(t, b, next); !slices.Equal(got, want) {
				t.Fatalf("%08b, bit %d becomes %t: %v changed", b, i, on, got)
			}
		}
	})
}

func TestP7_2FirstFit(t *testing.T) {
	ranges(3, func(x *rand.Rand, b []byte, from, to int) {
		n := 1 + x.Intn(12)
		clear := clearOnes(b, from, to)
		at, next, e := extent.Alloc(b, from, to, n)
		want := firstFit(clear, n)
		if want < 0 {
			if e != api.ErrSpace || at != 0 || len(next) != 0 {
				t.Fatalf("%08b, %d to %d, %d bits: %d, error %d", b, from, to, n, at, e)
			}
			return
		}
		if e != api.OK || at != want || !slices.Equal(changes(t, b, next), numbered(at, at+n)) {
			t.Fatalf("%08b, %d to %d, %d bits: %d instead of %d, %08b, error %d", b, from, to, n, at, want, next, e)
		}
	})
}

func TestP7_2FirstClearBits(t *testing.T) {
	ranges(4, func(x *rand.Rand, b []byte, from, to int) {
		clear := clearOnes(b, from, to)
		n := 1 + x.Intn(len(clear)+1)
		list, next, e := extent.Take(b, from, to, n)
		if n > len(clear) {
			if e != api.ErrSpace || len(list) != 0 || len(next) != 0 {
				t.Fatalf("%08b, %d to %d, %d bits: %v, error %d", b, from, to, n, list, e)
			}
			return
		}
		if e != api.OK || !slices.Equal(list, clear[:n]) || !slices.Equal(changes(t, b, next), list) {
			t.Fatalf("%08b, %d to %d, %d bits: %v, %08b, error %d", b, from, to, n, list, next, e)
		}
	})
}

func TestP7_3TakeSucceedsIfThereAreEnough(t *testing.T) {
	ranges(5, func(x *rand.Rand, b []byte, from, to int) {
		enough, e := extent.Clear(b, from, to)
		if e != api.OK {
			t.Fatal(e)
		}
		for n := 1; n <= to-from+2; n++ {
			_, _, taken := extent.Take(b, from, to, n)
			if (taken == api.OK) != (n <= enough) {
				t.Fatalf("%08b, %d to %d: %d of %d bits: error %d", b, from, to, n, enough, taken)
			}
			_, _, found := extent.Alloc(b, from, to, n)
			if found == api.OK && taken != api.OK {
				t.Fatalf("%08b, %d to %d: %d bits can be had together only", b, from, to, n)
			}
		}
	})
}

func TestP7_4ReleaseRestores(t *testing.T) {
	ranges(6, func(x *rand.Rand, b []byte, from, to int) {
		n := 1 + x.Intn(9)
		list, next, e := extent.Take(b, from, to, n)
		if e == api.OK {
			x.Shuffle(n, func(i, j int) { list[i], list[j] = list[j], list[i] })
			released(t, b, next, list)
		}
		at, next, e := extent.Alloc(b, from, to, n)
		if e == api.OK {
			released(t, b, next, numbered(at, at+n))
		}
	})
}

func released(t *testing.T, before, b []byte, list []int) {
	t.Helper()
	if got, e := extent.Release(b, list); e != api.OK || !bytes.Equal(got, before) {
		t.Fatalf("%08b without %v: %08b, error %d", b, list, got, e)
	}
	again := append(slices.Clone(list), list[0])
	if got, e := extent.Release(b, again); e != api.ErrState || len(got) != 0 {
		t.Fatalf("%08b without %v: %08b, error %d", b, again, got, e)
	}
	if got, e := extent.Release(before, list); e != api.ErrState || len(got) != 0 {
		t.Fatalf("%08b without %v: %08b, error %d", before, list, got, e)
	}
	outside := append(again, 8*len(b))
	if got, e := extent.Release(b, outside); e != api.ErrRange || len(got) != 0 {
		t.Fatalf("%08b without %v: %08b, error %d", b, outside, got, e)
	}
}

// isValidList is the definition of the lists that Runs accepts.
func isValidList(list []int) bool {
	for i, n := range list {
		if n < 0 || n > maxIndex || i > 0 && n <= list[i-1] {
			return false
		}
	}
	return len(list) <= 4096
}

// areValid is the definition of valid runs.
func areValid(runs []extent.Run) bool {
	for i, r := range runs {
		if r.Len < 1 || r.From < 0 || r.From+r.Len-1 > maxIndex {
			return false
		}
		if i > 0 && r.From <= runs[i-1].From+runs[i-1].Len {
			return false
		}
	}
	return true
}

func TestP7_5RunsOfRandomLists(t *testing.T) {
	x := rand.New(rand.NewSource(7))
	for range 50000 {
		list := make([]int, x.Intn(20))
		next := x.Intn(5) * (maxIndex / 4)
		for i := range list {
			list[i] = next - x.Intn(40)/39
			next += 1 + x.Intn(3)*x.Intn(2)
		}
		runs, e := extent.Runs(list)
		if !isValidList(list) {
			if e != api.ErrArg || len(runs) != 0 {
				t.Fatalf("%v: runs %v, error %d", list, runs, e)
			}
			continue
		}
		if e != api.OK || !areValid(runs) {
			t.Fatalf("%v: runs %v, error %d", list, runs, e)
		}
		if back, e := extent.Indices(runs); e != api.OK || !slices.Equal(back, list) {
			t.Fatalf("%v: runs %v, indices %v, error %d", list, runs, back, e)
		}
	}
}

func TestP7_5IndicesOfRandomRuns(t *testing.T) {
	x := rand.New(rand.NewSource(8))
	for range 50000 {
		runs := make([]extent.Run, x.Intn(8))
		next := x.Intn(5) * (maxIndex / 4)
		for i := range runs {
			runs[i] = extent.Run{From: next, Len: x.Intn(30)}
			if x.Intn(10) == 0 {
				runs[i].Len += 2000
			}
			next += runs[i].Len + 1 + x.Intn(3) - x.Intn(20)/19
		}
		checkRuns(t, runs)
	}
}

func checkRuns(t *testing.T, runs []extent.Run) {
	t.Helper()
	count := 0
	for _, r := range runs {
		count += r.Len
	}
	want := api.OK
	if !areValid(runs) {
		want = api.ErrArg
	} else if count > 4096 {
		want = api.ErrLimit
	}
	list, e := extent.Indices(runs)
	if e != want || e != api.OK && len(list) != 0 {
		t.Fatalf("%v: %d indices, error %d instead of %d", runs, len(list), e, want)
	}
	if e != api.OK {
		return
	}
	if len(list) != count || !isValidList(list) {
		t.Fatalf("%v: indices %v", runs, list)
	}
	if back, e := extent.Runs(list); e != api.OK || !slices.Equal(back, runs) {
		t.Fatalf("%v: runs %v of its indices, error %d", runs, back, e)
	}
}

// calls calls every function, and returns all of the memory of the results.
func calls(b []byte, list []int, runs []extent.Run) (maps [][]byte, lists [][]int, all []extent.Run) {
	extent.Get(b, 3)
	extent.Count(b)
	extent.Clear(b, 0, 8*len(b))
	keep := func(b []byte, _ api.Errno) { maps = append(maps, b) }
	keep(extent.Set(b, 0, true))
	keep(extent.Set(b, 1, true))
	keep(extent.Release(b, nil))
	keep(extent.Release(b, list))
	_, next, _ := extent.Alloc(b, 0, 8*len(b), 2)
	taken, last, _ := extent.Take(b, 0, 8*len(b), 2)
	all, _ = extent.Runs(list)
	indices, _ := extent.Indices(runs)
	return append(maps, next, last), [][]int{taken, indices}, all
}

func TestP7_1ArgumentsAndResultsAreIndependent(t *testing.T) {
	b, list, runs := []byte{0b00100110, 0}, []int{1, 2, 5}, []extent.Run{{1, 2}, {5, 1}}
	maps, lists, all := calls(b, list, runs)
	if !bytes.Equal(b, []byte{0b00100110, 0}) || !slices.Equal(list, []int{1, 2, 5}) ||
		!slices.Equal(runs, []extent.Run{{1, 2}, {5, 1}}) {
		t.Fatalf("arguments changed: %08b, %v, %v", b, list, runs)
	}
	for _, m := range maps {
		for i := range m[:cap(m)] {
			m[:cap(m)][i] = 0xaa
		}
	}
	for _, l := range lists {
		clear(l[:cap(l)])
	}
	clear(all[:cap(all)])
	if !bytes.Equal(b, []byte{0b00100110, 0}) || !slices.Equal(list, []int{1, 2, 5}) ||
		!slices.Equal(runs, []extent.Run{{1, 2}, {5, 1}}) {
		t.Fatalf("results share memory with arguments: %08b, %v, %v", b, list, runs)
	}
}

func TestP3EqualCallsHaveEqualResults(t *testing.T) {
	x := rand.New(rand.NewSource(9))
	for range 500 {
		b := randomBitmap(x)
		list, _, _ := extent.Take(b, 0, 8*len(b), 1+x.Intn(20))
		runs, _ := extent.Runs(list)
		maps, lists, all := calls(b, list, runs)
		calls(randomBitmap(x), []int{9, 9, -1}, []extent.Run{{0, 0}})
		maps2, lists2, all2 := calls(slices.Concat(b), slices.Concat(list), slices.Concat(runs))
		if !slices.EqualFunc(maps, maps2, bytes.Equal) || !slices.Equal(all, all2) ||
			!slices.EqualFunc(lists, lists2, slices.Equal[[]int]) {
			t.Fatalf("%08b, %v: different results", b, list)
		}
	}
}

// All of these would take longer than the age of the world if the numbers were counted up to.
func TestP1GreatArguments(t *testing.T) {
	b := make([]byte, 20000)
	for i := range b {
		b[i] = byte(0b01010101 << (i % 2))
	}
	for _, n := range []int{2, 3, 4, 79999, 80001, 1 << 40, 1<<63 - 1} {
		extent.Alloc(b, 0, 8*len(b), n)
		extent.Take(b, 0, 8*len(b), n)
		extent.Indices([]extent.Run{{0, n}})
		extent.Indices([]extent.Run{{n, n}, {n, n}})
		extent.Runs([]int{0, n})
		extent.Get(b, n)
		extent.Clear(b, 0, n)
	}
}

func FuzzP7_5Runs(f *testing.F) {
	f.Add(0, 1, 2, 1)
	f.Add(1, 2, 5, 1)
	f.Add(0, 4096, 5000, 1)
	f.Add(maxIndex, 1, -1, 1)
	f.Add(5, 0, 7, -3)
	f.Fuzz(func(t *testing.T, a, n, b, m int) {
		runs := []extent.Run{{a, n}, {b, m}}
		list, e := extent.Indices(runs)
		if e != api.OK {
			return
		}
		if back, e := extent.Runs(list); e != api.OK || !slices.Equal(back, runs) {
			t.Errorf("%v: runs %v of its indices, error %d", runs, back, e)
		}
	})
}

func FuzzP7_2Alloc(f *testing.F) {
	f.Add([]byte{0b00100110}, 0, 8, 2)
	f.Add([]byte{255, 0}, 3, 12, 4)
	f.Add([]byte{}, 0, 0, 1)
	f.Fuzz(func(t *testing.T, b []byte, from, to, n int) {
		list, next, e := extent.Take(b, from, to, n)
		if e == api.OK {
			released(t, b, next, list)
		}
		at, next, found := extent.Alloc(b, from, to, n)
		if found == api.OK {
			released(t, b, next, numbered(at, at+n))
			if e != api.OK {
				t.Errorf("%08b, %d to %d, %d bits: found together only", b, from, to, n)
			}
		}
	})
}
