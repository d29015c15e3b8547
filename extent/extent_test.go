package extent_test

import (
	"bytes"
	"math"
	"slices"
	"testing"

	"ratoon/api"
	"ratoon/extent"
)

// maxIndex is the greatest index in a list of runs.
const maxIndex = 1 << 30

// example returns the bitmap of the chapter's examples: the bits 1, 2 and 5 are set.
func example() []byte { return []byte{0b00100110} }

// badRanges returns ranges that are not valid for a bitmap of n bits.
func badRanges(n int) [][2]int {
	return [][2]int{
		{-1, n}, {-1, -1}, {-1, 0}, {0, n + 1}, {n, n + 1}, {n + 1, n + 1}, {n + 1, n}, {1, 0}, {0, -1},
		{math.MinInt, 0}, {0, math.MaxInt}, {math.MinInt, math.MaxInt}, {math.MaxInt, math.MinInt},
		{math.MinInt, math.MinInt}, {math.MaxInt, math.MaxInt}, {math.MinInt, n}, {0, math.MinInt},
	}
}

// numbered returns the indices from a number up to another one minus 1.
func numbered(from, to int) []int {
	var list []int
	for i := from; i < to; i++ {
		list = append(list, i)
	}
	return list
}

func TestP7_1Get(t *testing.T) {
	b := []byte{0b00100110, 0, 0b10000001}
	set := []int{1, 2, 5, 16, 23}
	for i := -20; i < 50; i++ {
		if got := extent.Get(b, i); got != slices.Contains(set, i) {
			t.Errorf("bit %d: %t", i, got)
		}
	}
	for _, i := range []int{math.MinInt, math.MaxInt, math.MinInt + 1, 1 << 40, -1 << 40} {
		if extent.Get(b, i) || extent.Get(nil, i) {
			t.Errorf("bit %d is set", i)
		}
	}
	if extent.Get(nil, 0) || extent.Get([]byte{}, 0) {
		t.Error("a bitmap without bits has one")
	}
}

func TestP7_1Set(t *testing.T) {
	for _, c := range []struct {
		i    int
		on   bool
		want []byte
	}{
		{0, true, []byte{0b00100111, 0xff}},
		{1, true, []byte{0b00100110, 0xff}},
		{1, false, []byte{0b00100100, 0xff}},
		{7, true, []byte{0b10100110, 0xff}},
		{7, false, []byte{0b00100110, 0xff}},
		{8, false, []byte{0b00100110, 0xfe}},
		{15, false, []byte{0b00100110, 0x7f}},
		{15, true, []byte{0b00100110, 0xff}},
	} {
		got, e := extent.Set([]byte{0b00100110, 0xff}, c.i, c.on)
		if e != api.OK || !bytes.Equal(got, c.want) {
			t.Errorf("bit %d becomes %t: %08b, error %d", c.i, c.on, got, e)
		}
	}
}

func TestP7_1SetWithoutSuchABit(t *testing.T) {
	for _, b := range [][]byte{nil, {}, {0}, {255, 255}} {
		for _, i := range []int{-1, 8 * len(b), 8*len(b) + 1, math.MinInt, math.MaxInt} {
			for _, on := range []bool{false, true} {
				if got, e := extent.Set(b, i, on); e != api.ErrRange || len(got) != 0 {
					t.Errorf("%v, bit %d: %v, error %d", b, i, got, e)
				}
			}
		}
	}
}

func TestP7_1Count(t *testing.T) {
	for _, c := range []struct {
		b    []byte
		want int
	}{
		{nil, 0}, {[]byte{}, 0}, {[]byte{0}, 0}, {[]byte{1}, 1}, {[]byte{128}, 1}, {[]byte{255}, 8},
		{example(), 3}, {[]byte{0, 0b00100110, 255, 0, 1}, 12}, {bytes.Repeat([]byte{255}, 500), 4000},
	} {
		if got := extent.Count(c.b); got != c.want {
			t.Errorf("%v: %d set bits instead of %d", c.b, got, c.want)
		}
	}
}

func TestP7_1Clear(t *testing.T) {
	for _, c := range []struct {
		b              []byte
		from, to, want int
	}{
		{nil, 0, 0, 0}, {example(), 0, 8, 5}, {example(), 0, 0, 0}, {example(), 8, 8, 0},
		{example(), 0, 1, 1}, {example(), 1, 3, 0}, {example(), 1, 4, 1}, {example(), 5, 6, 0},
		{example(), 6, 8, 2}, {example(), 7, 8, 1},
		{[]byte{0b00100110, 0, 255}, 0, 24, 13}, {[]byte{0b00100110, 0, 255}, 4, 17, 11},
		{make([]byte, 500), 0, 4000, 4000}, {make([]byte, 500), 1, 3999, 3998},
	} {
		if got, e := extent.Clear(c.b, c.from, c.to); e != api.OK || got != c.want {
			t.Errorf("%v from %d to %d: %d clear bits, error %d", c.b, c.from, c.to, got, e)
		}
	}
}

func TestP7_1RangesThatAreNotValid(t *testing.T) {
	for _, b := range [][]byte{nil, {0}, example(), {255, 0, 3}} {
		for _, r := range badRanges(8 * len(b)) {
			if n, e := extent.Clear(b, r[0], r[1]); e != api.ErrArg || n != 0 {
				t.Errorf("%v: Clear %v: %d, error %d", b, r, n, e)
			}
			for _, n := range []int{-1, 0, 1, 9, 1000} {
				allocFails(t, b, r[0], r[1], n, api.ErrArg)
				takeFails(t, b, r[0], r[1], n, api.ErrArg)
			}
		}
	}
}

func allocFails(t *testing.T, b []byte, from, to, n int, want api.Errno) {
	t.Helper()
	if at, next, e := extent.Alloc(b, from, to, n); e != want || at != 0 || len(next) != 0 {
		t.Errorf("%v: Alloc %d to %d, %d bits: %d, %v, error %d instead of %d", b, from, to, n, at, next, e, want)
	}
}

func takeFails(t *testing.T, b []byte, from, to, n int, want api.Errno) {
	t.Helper()
	if list, next, e := extent.Take(b, from, to, n); e != want || len(list) != 0 || len(next) != 0 {
		t.Errorf("%v: Take %d to %d, %d bits: %v, %v, error %d instead of %d", b, from, to, n, list, next, e, want)
	}
}

// No range is so full that the number of bits is not looked at first.
func TestP7_1FewerThanOneBit(t *testing.T) {
	for _, b := range [][]byte{nil, {0}, {255}, example()} {
		for _, n := range []int{0, -1, math.MinInt} {
			allocFails(t, b, 0, 8*len(b), n, api.ErrArg)
			takeFails(t, b, 0, 8*len(b), n, api.ErrArg)
			allocFails(t, b, 0, 0, n, api.ErrArg)
			takeFails(t, b, 0, 0, n, api.ErrArg)
		}
	}
}

func TestP7_2Alloc(t *testing.T) {
	for _, c := range []struct {
		b           []byte
		from, to, n int
		at          int
		next        []byte
		remark      string
	}{
		{example(), 0, 8, 2, 3, []byte{0b00111110}, ""},
		{example(), 0, 8, 1, 0, []byte{0b00100111}, ""},
		{example(), 1, 8, 1, 3, []byte{0b00101110}, "bit 0 is clear, but not of the range"},
		{example(), 4, 8, 1, 4, []byte{0b00110110}, ""},
		{example(), 4, 8, 2, 6, []byte{0b11100110}, "bits 3 and 4, but 3 is not of the range"},
		{example(), 6, 8, 2, 6, []byte{0b11100110}, ""},
		{[]byte{0, 0}, 0, 16, 16, 0, []byte{255, 255}, ""},
		{[]byte{0, 0}, 3, 13, 10, 3, []byte{0b11111000, 0b00011111}, ""},
		{[]byte{0b00001111, 0b11110000}, 0, 16, 8, 4, []byte{255, 255}, "across bytes"},
		{[]byte{0b01010101, 0b00010001, 0}, 0, 24, 3, 9, []byte{0b01010101, 0b00011111, 0}, ""},
		{[]byte{0b01010101, 0b00010001, 0}, 0, 24, 4, 13, []byte{0b01010101, 0b11110001, 1}, ""},
		{[]byte{255, 255, 0b01111111}, 0, 24, 1, 23, []byte{255, 255, 255}, "the last bit"},
		{[]byte{0b11111110}, 0, 1, 1, 0, []byte{255}, "the only bit"},
	} {
		b := bytes.Clone(c.b)
		at, next, e := extent.Alloc(b, c.from, c.to, c.n)
		if e != api.OK || at != c.at || !bytes.Equal(next, c.next) {
			t.Errorf("%08b, %d to %d, %d bits: %d, %08b, error %d (%s)", c.b, c.from, c.to, c.n, at, next, e, c.remark)
		}
	}
}

func TestP7_2Take(t *testing.T) {
	for _, c := range []struct {
		b           []byte
		from, to, n int
		list        []int
		next        []byte
	}{
		{example(), 0, 8, 2, []int{0, 3}, []byte{0b00101111}},
		{example(), 0, 8, 1, []int{0}, []byte{0b00100111}},
		{example(), 1, 8, 1, []int{3}, []byte{0b00101110}},
		{example(), 0, 8, 5, []int{0, 3, 4, 6, 7}, []byte{255}},
		{example(), 4, 7, 2, []int{4, 6}, []byte{0b01110110}},
		{[]byte{0, 0}, 0, 16, 16, numbered(0, 16), []byte{255, 255}},
		{[]byte{0, 0}, 6, 10, 4, numbered(6, 10), []byte{0b11000000, 0b00000011}},
		{[]byte{255, 0b11101111, 0b01111111}, 0, 24, 2, []int{12, 23}, []byte{255, 255, 255}},
	} {
		list, next, e := extent.Take(bytes.Clone(c.b), c.from, c.to, c.n)
		if e != api.OK || !slices.Equal(list, c.list) || !bytes.Equal(next, c.next) {
			t.Errorf("%08b, %d to %d, %d bits: %v, %08b, error %d", c.b, c.from, c.to, c.n, list, next, e)
		}
	}
}

func TestP7_3NoSpace(t *testing.T) {
	for _, c := range []struct {
		b           []byte
		from, to, n int
		take        bool // whether there is space for bits that are not consecutive
	}{
		{nil, 0, 0, 1, false},
		{example(), 0, 0, 1, false},
		{example(), 8, 8, 1, false},
		{example(), 1, 3, 1, false},
		{example(), 0, 8, 3, true},
		{example(), 0, 8, 5, true},
		{example(), 0, 8, 6, false},
		{example(), 0, 7, 5, false},
		{example(), 1, 8, 5, false},
		{example(), 0, 4, 2, true},
		{example(), 0, 8, math.MaxInt, false},
		{example(), 3, 8, math.MaxInt, false},
		{example(), 8, 8, math.MaxInt - 7, false},
		{[]byte{255, 255}, 0, 16, 1, false},
		{[]byte{0, 0}, 0, 16, 17, false},
		{[]byte{0, 0}, 2, 16, 15, false},
		{[]byte{0, 0}, 0, 15, 16, false},
		{[]byte{0, 0, 0}, 8, 16, 9, false},
		{[]byte{0b01010101, 0b01010101}, 0, 16, 2, true},
		{[]byte{0b01010101, 0b01010101}, 0, 16, 8, true},
		{[]byte{0b01010101, 0b01010101}, 0, 16, 9, false},
	} {
		allocFails(t, c.b, c.from, c.to, c.n, api.ErrSpace)
		if !c.take {
			takeFails(t, c.b, c.from, c.to, c.n, api.ErrSpace)
		} else if _, _, e := extent.Take(c.b, c.from, c.to, c.n); e != api.OK {
			t.Errorf("%08b, %d to %d, %d bits: error %d", c.b, c.from, c.to, c.n, e)
		}
	}
}

func TestP7_4Release(t *testing.T) {
	for _, c := range []struct {
		b    []byte
		list []int
		want []byte
	}{
		{nil, nil, nil},
		{example(), nil, example()},
		{example(), []int{}, example()},
		{example(), []int{2}, []byte{0b00100010}},
		{example(), []int{5, 1, 2}, []byte{0}},
		{[]byte{255, 255}, []int{15, 0, 8, 7}, []byte{0b01111110, 0b01111110}},
	} {
		if got, e := extent.Release(bytes.Clone(c.b), c.list); e != api.OK || !bytes.Equal(got, c.want) {
			t.Errorf("%08b without %v: %08b, error %d", c.b, c.list, got, e)
		}
	}
}

func TestP7_4ReleaseIsRefused(t *testing.T) {
	for _, c := range []struct {
		b    []byte
		list []int
		want api.Errno
	}{
		{nil, []int{0}, api.ErrRange},
		{example(), []int{-1}, api.ErrRange},
		{example(), []int{8}, api.ErrRange},
		{example(), []int{math.MinInt}, api.ErrRange},
		{example(), []int{math.MaxInt}, api.ErrRange},
		{example(), []int{1, 2, 8}, api.ErrRange},
		{example(), []int{0, 8}, api.ErrRange},
		{example(), []int{1, 1, 8}, api.ErrRange},
		{example(), []int{0, -1}, api.ErrRange},
		{example(), []int{0}, api.ErrState},
		{example(), []int{1, 2, 3}, api.ErrState},
		{example(), []int{1, 1}, api.ErrState},
		{example(), []int{1, 2, 5, 1}, api.ErrState},
		{[]byte{255}, []int{0, 1, 2, 3, 4, 5, 6, 7, 0}, api.ErrState},
		{[]byte{0}, []int{7}, api.ErrState},
	} {
		if got, e := extent.Release(bytes.Clone(c.b), c.list); e != c.want || len(got) != 0 {
			t.Errorf("%08b without %v: %08b, error %d", c.b, c.list, got, e)
		}
	}
}

func TestP7_5Runs(t *testing.T) {
	for _, c := range []struct {
		list []int
		runs []extent.Run
	}{
		{nil, nil},
		{[]int{0}, []extent.Run{{0, 1}}},
		{[]int{1, 2, 5}, []extent.Run{{1, 2}, {5, 1}}},
		{[]int{0, 1, 2, 3}, []extent.Run{{0, 4}}},
		{[]int{0, 2, 4}, []extent.Run{{0, 1}, {2, 1}, {4, 1}}},
		{[]int{3, 5, 6, 7, 100}, []extent.Run{{3, 1}, {5, 3}, {100, 1}}},
		{[]int{0, maxIndex - 1, maxIndex}, []extent.Run{{0, 1}, {maxIndex - 1, 2}}},
		{[]int{maxIndex}, []extent.Run{{maxIndex, 1}}},
		{numbered(0, extent.MaxIndices), []extent.Run{{0, extent.MaxIndices}}},
		{numbered(maxIndex-4095, maxIndex+1), []extent.Run{{maxIndex - 4095, 4096}}},
	} {
		runs, e := extent.Runs(c.list)
		if e != api.OK || !slices.Equal(runs, c.runs) {
			t.Errorf("%v: runs %v, error %d", c.list, runs, e)
		}
		list, e := extent.Indices(c.runs)
		if e != api.OK || !slices.Equal(list, c.list) {
			t.Errorf("%v: indices %v, error %d", c.runs, list, e)
		}
	}
	if extent.MaxIndices != 4096 {
		t.Error("MaxIndices is", extent.MaxIndices)
	}
}

func TestP7_5ListsThatAreNotValid(t *testing.T) {
	for _, list := range [][]int{
		{-1}, {-1, 0}, {math.MinInt}, {0, 0}, {1, 0}, {0, 1, 1}, {0, 2, 1}, {5, 4}, {3, -1}, {7, 9, 8},
		{maxIndex + 1}, {0, maxIndex + 1}, {maxIndex, maxIndex + 1}, {math.MaxInt}, {0, math.MaxInt},
		{maxIndex, maxIndex}, {math.MaxInt, math.MinInt}, {math.MinInt, math.MaxInt},
		numbered(0, 4097), numbered(-1, 100), numbered(maxIndex-4095, maxIndex+2),
	} {
		if runs, e := extent.Runs(list); e != api.ErrArg || len(runs) != 0 {
			t.Errorf("%v: runs %v, error %d", list, runs, e)
		}
	}
}

func TestP7_5RunsThatAreNotValid(t *testing.T) {
	for _, runs := range [][]extent.Run{
		{{0, 0}}, {{0, -1}}, {{5, math.MinInt}}, {{-1, 1}}, {{-1, 5}}, {{math.MinInt, 1}}, {{math.MinInt, math.MaxInt}},
		{{0, 2}, {2, 1}}, {{0, 2}, {1, 1}}, {{0, 2}, {0, 2}}, {{4, 1}, {2, 1}}, {{0, 1}, {2, 0}}, {{0, 1}, {-5, 1}},
		{{0, 1}, {2, 1}, {3, 1}}, {{2, 3}, {5, 1}}, {{0, 1}, {2, 3}, {4, 9}},
		{{maxIndex + 1, 1}}, {{maxIndex, 2}}, {{0, maxIndex + 2}}, {{1, maxIndex + 1}}, {{0, math.MaxInt}},
		{{math.MaxInt, 1}}, {{math.MaxInt, math.MaxInt}}, {{1, math.MaxInt}}, {{maxIndex, math.MaxInt}},
		{{0, 1}, {2, math.MaxInt}, {5, 1}}, {{0, 1}, {math.MaxInt, 1}},
		{{0, 4097}, {4097, 1}}, {{0, 5000}, {6000, 0}}, {{0, maxIndex}, {maxIndex, 1}},
	} {
		if list, e := extent.Indices(runs); e != api.ErrArg || len(list) != 0 {
			t.Errorf("%v: %d indices, error %d", runs, len(list), e)
		}
	}
}

func TestP7_5MoreIndicesThanTheLimit(t *testing.T) {
	many := make([]extent.Run, 4097)
	for i := range many {
		many[i] = extent.Run{From: 2 * i, Len: 1}
	}
	if list, e := extent.Indices(many[:4096]); e != api.OK || len(list) != 4096 || list[4095] != 8190 {
		t.Errorf("4096 runs: %d indices, error %d", len(list), e)
	}
	for _, runs := range [][]extent.Run{
		many, {{0, 4097}}, {{5, 4096}, {5000, 1}}, {{0, 1}, {2, 4096}}, {{0, maxIndex + 1}}, {{1, maxIndex}},
		{{maxIndex - 4096, 4097}}, {{0, maxIndex - 1}, {maxIndex, 1}},
	} {
		if list, e := extent.Indices(runs); e != api.ErrLimit || len(list) != 0 {
			t.Errorf("%d runs: %d indices, error %d", len(runs), len(list), e)
		}
	}
}
