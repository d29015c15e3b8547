package frames_test

import (
	"bytes"
	"math"
	"slices"
	"testing"

	"ratoon/api"
	"ratoon/frames"
)

// invalid returns memories that are not valid.
func invalid() map[string]frames.Memory {
	short, long, missing, first := frames.New(), frames.New(), frames.New(), frames.New()
	short.Pages[95] = make([]byte, 127)
	long.Pages[50] = make([]byte, 129)
	missing.Pages[7] = nil
	first.Pages[0] = []byte{1}
	return map[string]frames.Memory{
		"the zero value":        {},
		"no pages":              {Pages: [][]byte{}},
		"a page too few":        {Pages: frames.New().Pages[:95]},
		"a page too many":       {Pages: append(frames.New().Pages, make([]byte, 128))},
		"pages of no bytes":     {Pages: make([][]byte, 96)},
		"a short last page":     short,
		"a long page":           long,
		"a page without bytes":  missing,
		"a page with a byte":    first,
		"all bytes in one page": {Pages: [][]byte{make([]byte, 96*128)}},
	}
}

// notFrames returns numbers that are no frames.
func notFrames() []int {
	return []int{-1, 96, 97, -96, 128, math.MinInt, math.MaxInt, 1 << 32, -1 << 32, math.MinInt + 1}
}

// badRanges returns ranges, from a place on and of n bytes, that do not lie within a page.
func badRanges() [][2]int {
	return [][2]int{
		{-1, 0}, {-1, 1}, {-1, 129}, {0, -1}, {0, 129}, {1, 128}, {128, 1}, {128, -1}, {129, 0}, {129, -1},
		{127, 2}, {64, 65}, {129, -2}, {-128, 128}, {math.MinInt, 0}, {math.MinInt, 1}, {math.MaxInt, 0},
		{math.MaxInt, 1}, {0, math.MaxInt}, {128, math.MaxInt}, {0, math.MinInt}, {math.MaxInt, math.MaxInt},
		{math.MinInt, math.MinInt}, {math.MaxInt, math.MinInt}, {math.MinInt, math.MaxInt}, {1 << 32, 0},
		{math.MaxInt, -math.MaxInt + 127},
	}
}

// numbers returns n bytes, which are not 0, beginning with first.
func numbers(first byte, n int) []byte {
	b := make([]byte, n)
	for i := range b {
		b[i] = first + byte(i)
	}
	return b
}

// must returns a memory that is the result of a call without an error.
func must(t *testing.T, m frames.Memory, e api.Errno) frames.Memory {
	t.Helper()
	if e != api.OK {
		t.Fatalf("error %d", e)
	}
	if !frames.Valid(m) {
		t.Fatal("the result is not valid")
	}
	return m
}

// written returns a new memory after one write.
func written(t *testing.T, frame, from int, b ...byte) frames.Memory {
	t.Helper()
	m, e := frames.Write(frames.New(), frame, from, b)
	return must(t, m, e)
}

// refused reports a memory beside an error, or another error than the one wanted.
func refused(t *testing.T, what string, m frames.Memory, e, want api.Errno) {
	t.Helper()
	if e != want || m.Pages != nil {
		t.Errorf("%s: %d pages, error %d instead of %d", what, len(m.Pages), e, want)
	}
}

func TestP8_1New(t *testing.T) {
	m := frames.New()
	if len(m.Pages) != 96 {
		t.Fatalf("%d pages", len(m.Pages))
	}
	for i, page := range m.Pages {
		if !bytes.Equal(page, make([]byte, 128)) {
			t.Errorf("page %d: %v", i, page)
		}
	}
	if !frames.Valid(m) {
		t.Error("a new memory is not valid")
	}
}

func TestP8_1Valid(t *testing.T) {
	for what, m := range invalid() {
		if frames.Valid(m) {
			t.Errorf("%s: valid", what)
		}
	}
	m := frames.New()
	for i := range m.Pages {
		m.Pages[i] = bytes.Repeat([]byte{byte(i)}, 128)
	}
	if !frames.Valid(m) {
		t.Error("pages of any bytes are not valid")
	}
}

func TestP8_1Example(t *testing.T) {
	m := written(t, 5, 126, 1, 2)
	if b, e := frames.Read(m, 5, 125, 3); e != api.OK || !bytes.Equal(b, []byte{0, 1, 2}) {
		t.Errorf("read %v, error %d", b, e)
	}
	if used := frames.Used(m); !slices.Equal(used, []int{5}) {
		t.Errorf("frames %v are used", used)
	}
	next, e := frames.Write(m, 5, 128, []byte{3})
	refused(t, "a byte behind the page", next, e, api.ErrRange)
	next, e = frames.Write(m, 5, 128, nil)
	if !frames.Equal(must(t, next, e), m) {
		t.Error("writing no bytes changed the memory")
	}
}

func TestP8_1ReadRanges(t *testing.T) {
	m := written(t, 95, 0, numbers(1, 128)...)
	for _, c := range []struct{ from, n int }{
		{0, 128}, {0, 0}, {128, 0}, {127, 1}, {127, 0}, {0, 1}, {5, 20}, {64, 64}, {1, 127}, {0, 127},
	} {
		b, e := frames.Read(m, 95, c.from, c.n)
		if e != api.OK || !bytes.Equal(b, numbers(byte(1+c.from), c.n)) {
			t.Errorf("%d bytes from %d on: %v, error %d", c.n, c.from, b, e)
		}
		if b, e := frames.Read(m, 94, c.from, c.n); e != api.OK || !bytes.Equal(b, make([]byte, c.n)) {
			t.Errorf("%d bytes from %d on of another frame: %v, error %d", c.n, c.from, b, e)
		}
	}
}

func TestP8_1WriteRanges(t *testing.T) {
	before := written(t, 0, 0, numbers(1, 128)...)
	for _, c := range []struct{ from, n int }{
		{0, 128}, {0, 0}, {128, 0}, {127, 1}, {0, 1}, {5, 20}, {64, 64}, {1, 127}, {0, 127},
	} {
		m, e := frames.Write(before, 0, c.from, bytes.Repeat([]byte{200}, c.n))
		want := frames.New()
		copy(want.Pages[0], numbers(1, 128))
		copy(want.Pages[0][c.from:], bytes.Repeat([]byte{200}, c.n))
		if !frames.Equal(must(t, m, e), want) {
			t.Errorf("%d bytes from %d on: %v", c.n, c.from, m.Pages[0])
		}
	}
}

func TestP8_1Set(t *testing.T) {
	before := written(t, 40, 0, numbers(1, 128)...)
	for _, n := range []int{0, 1, 2, 64, 127, 128} {
		m, e := frames.Set(before, 40, numbers(100, n))
		want := frames.New()
		copy(want.Pages[40], numbers(100, n))
		if !frames.Equal(must(t, m, e), want) {
			t.Errorf("%d bytes: %v", n, m.Pages[40])
		}
	}
	m, e := frames.Set(before, 40, nil)
	if !frames.Equal(must(t, m, e), frames.New()) {
		t.Error("a frame that is set to no bytes is not zero")
	}
	for _, n := range []int{129, 130, 256, 96 * 128} {
		m, e := frames.Set(before, 40, make([]byte, n))
		refused(t, "too many bytes", m, e, api.ErrRange)
	}
}

func TestP8_1Copy(t *testing.T) {
	before := written(t, 95, 0, numbers(1, 128)...)
	for _, to := range []int{0, 1, 94} {
		m, e := frames.Copy(before, to, 95)
		want := frames.New()
		copy(want.Pages[95], numbers(1, 128))
		copy(want.Pages[to], numbers(1, 128))
		if !frames.Equal(must(t, m, e), want) {
			t.Errorf("to frame %d: frames %v are used", to, frames.Used(m))
		}
	}
	m, e := frames.Copy(before, 95, 95)
	if !frames.Equal(must(t, m, e), before) {
		t.Error("a frame that is copied to itself changed")
	}
	m, e = frames.Copy(before, 95, 0)
	if !frames.Equal(must(t, m, e), frames.New()) {
		t.Error("zeros were not copied")
	}
}

func TestP8_1MemoriesThatAreNotValid(t *testing.T) {
	for what, m := range invalid() {
		// An argument that is wrong, too, makes no difference.
		for _, frame := range []int{0, 50, 95, -1, 96} {
			for _, n := range []int{0, 1, 129} {
				b, e := frames.Read(m, frame, 0, n)
				if e != api.ErrArg || len(b) != 0 {
					t.Errorf("%s: read %v, error %d", what, b, e)
				}
				next, e := frames.Write(m, frame, 0, make([]byte, n))
				refused(t, what, next, e, api.ErrArg)
				next, e = frames.Set(m, frame, make([]byte, n))
				refused(t, what, next, e, api.ErrArg)
				next, e = frames.Copy(m, frame, n)
				refused(t, what, next, e, api.ErrArg)
				next, e = frames.Copy(m, n, frame)
				refused(t, what, next, e, api.ErrArg)
			}
		}
	}
}

func TestP8_1NoSuchFrame(t *testing.T) {
	m := written(t, 95, 0, numbers(1, 128)...)
	for _, frame := range notFrames() {
		for _, n := range []int{0, 1, 128, 129} {
			if b, e := frames.Read(m, frame, 0, n); e != api.ErrRange || len(b) != 0 {
				t.Errorf("frame %d: read %v, error %d", frame, b, e)
			}
			next, e := frames.Write(m, frame, 0, make([]byte, n))
			refused(t, "write", next, e, api.ErrRange)
			next, e = frames.Set(m, frame, make([]byte, n))
			refused(t, "set", next, e, api.ErrRange)
		}
		for _, other := range []int{0, 95, frame} {
			next, e := frames.Copy(m, frame, other)
			refused(t, "copy to it", next, e, api.ErrRange)
			next, e = frames.Copy(m, other, frame)
			refused(t, "copy from it", next, e, api.ErrRange)
		}
	}
}

func TestP8_1RangesThatAreNoneOfAPage(t *testing.T) {
	m := written(t, 3, 0, numbers(1, 128)...)
	for _, c := range badRanges() {
		if b, e := frames.Read(m, 3, c[0], c[1]); e != api.ErrRange || len(b) != 0 {
			t.Errorf("%d bytes from %d on: read %v, error %d", c[1], c[0], b, e)
		}
		if c[1] < 0 || c[1] > 1000 {
			continue
		}
		next, e := frames.Write(m, 3, c[0], make([]byte, c[1]))
		refused(t, "write", next, e, api.ErrRange)
	}
}

func TestP8_1Used(t *testing.T) {
	for what, m := range invalid() {
		for _, page := range m.Pages {
			if len(page) > 0 {
				page[0] = 1
			}
		}
		if used := frames.Used(m); len(used) != 0 {
			t.Errorf("%s: frames %v are used", what, used)
		}
	}
	if used := frames.Used(frames.New()); len(used) != 0 {
		t.Errorf("frames %v of a new memory are used", used)
	}
	m := frames.New()
	m.Pages[95][127], m.Pages[0][0], m.Pages[17][64], m.Pages[18][1] = 1, 255, 128, 2
	if used := frames.Used(m); !slices.Equal(used, []int{0, 17, 18, 95}) {
		t.Errorf("frames %v are used", used)
	}
	var all []int
	for i, page := range m.Pages {
		page[i] = 9
		all = append(all, i)
	}
	if used := frames.Used(m); !slices.Equal(used, all) {
		t.Errorf("frames %v are used", used)
	}
}

func TestP8_1Equal(t *testing.T) {
	pages := func(p ...[]byte) frames.Memory { return frames.Memory{Pages: p} }
	for _, c := range []struct {
		a, b frames.Memory
		want bool
	}{
		{frames.Memory{}, frames.Memory{}, true},
		{frames.Memory{}, pages([][]byte{}...), true},
		{frames.Memory{}, frames.New(), false},
		{frames.New(), frames.New(), true},
		{frames.New(), pages(frames.New().Pages[:95]...), false},
		{pages(nil, []byte{1}), pages([]byte{}, []byte{1}), true},
		{pages(nil, []byte{1}), pages([]byte{1}, nil), false},
		{pages(nil), pages(nil, nil), false},
		{pages([]byte{1, 2}), pages([]byte{1}), false},
		{pages([]byte{1, 2}), pages([]byte{1}, []byte{2}), false},
		{pages([]byte{1, 2}, nil, []byte{3}), pages([]byte{1, 2}, nil, []byte{3}), true},
		{pages([]byte{1, 2}, nil, []byte{3}), pages([]byte{1, 2}, nil, []byte{4}), false},
		{written(t, 95, 127, 1), written(t, 95, 127, 1), true},
		{written(t, 95, 127, 1), written(t, 95, 127, 2), false},
		{written(t, 95, 127, 1), written(t, 95, 126, 1), false},
		{written(t, 95, 127, 1), written(t, 94, 127, 1), false},
		{written(t, 0, 0, 1), frames.New(), false},
	} {
		if frames.Equal(c.a, c.b) != c.want || frames.Equal(c.b, c.a) != c.want {
			t.Errorf("%d and %d pages, used %v and %v: equal is not %t",
				len(c.a.Pages), len(c.b.Pages), frames.Used(c.a), frames.Used(c.b), c.want)
		}
	}
}
