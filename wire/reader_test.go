package wire_test

import (
	"bytes"
	"math"
	"reflect"
	"slices"
	"testing"

	"ratoon/api"
	"ratoon/wire"
)

func TestP1_1IntIsRead(t *testing.T) {
	for _, c := range integers {
		r := wire.Read(c.want)
		if n := r.Int(); n != c.n || r.Left() != 0 || r.End() != api.OK {
			t.Errorf("%v: read %d, want %d; left %d, %v", c.want, n, c.n, r.Left(), r.End())
		}
	}
}

// noIntegers are bytes at whose beginning there is no encoding of an integer.
var noIntegers = [][]byte{
	nil,
	{128},
	{255},
	{128, 0},
	{255, 0},
	{129, 128, 0},
	{128, 128},
	{255, 255, 255, 255, 255, 255, 255, 255, 255},
	{255, 255, 255, 255, 255, 255, 255, 255, 255, 0},
	{254, 255, 255, 255, 255, 255, 255, 255, 255, 2},
	{254, 255, 255, 255, 255, 255, 255, 255, 255, 127},
	{254, 255, 255, 255, 255, 255, 255, 255, 255, 129},
	{128, 128, 128, 128, 128, 128, 128, 128, 128, 128, 1},
	{128, 128, 128, 128, 128, 128, 128, 128, 128, 128, 128, 0},
}

func TestP1_1IntRefusesOtherBytes(t *testing.T) {
	for _, b := range noIntegers {
		r := wire.Read(b)
		if n := r.Int(); n != 0 || r.Left() != len(b) || r.End() != api.ErrForm {
			t.Errorf("%v: read %d, left %d, %v", b, n, r.Left(), r.End())
		}
	}
}

func TestP1_1BoundedReadsIntegersWithinLimits(t *testing.T) {
	for _, c := range []struct {
		n, least, most int
		fits           bool
	}{
		{2, 2, 5, true}, {5, 2, 5, true}, {3, 2, 5, true}, {1, 2, 5, false}, {6, 2, 5, false},
		{0, 0, 0, true}, {-1, 0, 0, false}, {1, 0, 0, false}, {-3, -3, -3, true}, {-3, -2, 0, false},
		{3, 5, 2, false}, {0, 1, -1, false}, {0, 1, 5, false}, {0, -5, -1, false},
		{math.MaxInt, math.MinInt, math.MaxInt, true}, {math.MinInt, math.MinInt, math.MaxInt, true},
		{0, math.MaxInt, math.MinInt, false},
	} {
		b := wire.Int(nil, c.n)
		r := wire.Read(b)
		n := r.Bounded(c.least, c.most)
		if c.fits && (n != c.n || r.End() != api.OK) {
			t.Errorf("%d from %d to %d: read %d, %v", c.n, c.least, c.most, n, r.End())
		}
		if !c.fits && (n != 0 || r.Left() != len(b) || r.End() != api.ErrForm) {
			t.Errorf("%d from %d to %d: read %d, left %d, %v", c.n, c.least, c.most, n, r.Left(), r.End())
		}
	}
	for _, b := range noIntegers {
		r := wire.Read(b)
		if n := r.Bounded(-9, 9); n != 0 || r.Left() != len(b) || r.End() != api.ErrForm {
			t.Errorf("%v: read %d, left %d, %v", b, n, r.Left(), r.End())
		}
	}
}

func TestP1_1BoolIsAByteOneOrZero(t *testing.T) {
	for c := range 256 {
		r := wire.Read([]byte{byte(c), 5})
		v := r.Bool()
		left, end := 1, wire.Read([]byte{5}).End()
		if c > 1 {
			left = 2
		}
		if v != (c == 1) || r.Left() != left || r.End() != end {
			t.Errorf("%d: read %v, left %d, %v", c, v, r.Left(), r.End())
		}
		r.Int()
		if failed := r.Left() != 0; failed != (c > 1) {
			t.Errorf("%d: failed is %v", c, failed)
		}
	}
	r := wire.Read(nil)
	if r.Bool() || r.End() != api.ErrForm {
		t.Error("no byte", r.End())
	}
}

// limited are the readings with a limit, of a value of two bytes or elements.
var limited = []struct {
	name string
	b    []byte
	read func(r *wire.Reader, most int) any
	want any
	zero any
}{
	{"String", []byte{4, 97, 98}, func(r *wire.Reader, most int) any { return r.String(most) }, "ab", ""},
	{"Bytes", []byte{4, 97, 98}, func(r *wire.Reader, most int) any { return r.Bytes(most) }, []byte("ab"), []byte(nil)},
	{"Ints", []byte{4, 2, 3}, func(r *wire.Reader, most int) any { return r.Ints(most) }, []int{1, -2}, []int(nil)},
	{"Strings", []byte{4, 0, 2, 99}, func(r *wire.Reader, most int) any { return r.Strings(most) }, []string{"", "c"}, []string(nil)},
}

func TestP1_1LimitsOfStringsAndLists(t *testing.T) {
	for _, c := range limited {
		for _, most := range []int{2, 3, 1000, math.MaxInt} {
			r := wire.Read(c.b)
			if v := c.read(r, most); !reflect.DeepEqual(v, c.want) || r.End() != api.OK {
				t.Errorf("%s of at most %d: %v, %v", c.name, most, v, r.End())
			}
		}
		for _, most := range []int{1, 0, -1, -2, math.MinInt} {
			r := wire.Read(c.b)
			if v := c.read(r, most); !reflect.DeepEqual(v, c.zero) || r.Left() != len(c.b) || r.End() != api.ErrForm {
				t.Errorf("%s of at most %d: %v, left %d, %v", c.name, most, v, r.Left(), r.End())
			}
		}
	}
}

func TestP1_1EmptyStringsAndLists(t *testing.T) {
	for _, c := range limited {
		for _, most := range []int{0, 1, math.MaxInt} {
			r := wire.Read([]byte{0, 8})
			if v := c.read(r, most); !reflect.DeepEqual(v, c.zero) || r.Left() != 1 {
				t.Errorf("%s of at most %d: %v, left %d", c.name, most, v, r.Left())
			}
			if r.Int() != 4 || r.End() != api.OK {
				t.Errorf("%s of at most %d: failed", c.name, most)
			}
		}
		for _, most := range []int{-1, math.MinInt} {
			r := wire.Read([]byte{0})
			if v := c.read(r, most); !reflect.DeepEqual(v, c.zero) || r.Left() != 1 || r.End() != api.ErrForm {
				t.Errorf("%s of at most %d: %v, left %d", c.name, most, v, r.Left())
			}
		}
	}
}

func TestP1_1StringsAndListsRefuseOtherNumbers(t *testing.T) {
	numbers := append([][]byte{
		{1}, {3}, {7, 1, 1, 1}, {6}, {4}, {4, 1},
		{129, 1, 1, 1},
		{128, 0, 1},
		wire.Int(nil, math.MaxInt),
		wire.Int(nil, math.MinInt),
		append(wire.Int(nil, math.MaxInt), 1, 1, 1),
		append(wire.Int(nil, 1<<40), make([]byte, 50)...),
	}, noIntegers...)
	for _, c := range limited {
		for _, b := range numbers {
			r := wire.Read(b)
			if v := c.read(r, math.MaxInt); !reflect.DeepEqual(v, c.zero) || r.Left() != len(b) || r.End() != api.ErrForm {
				t.Errorf("%s of %v: %v, left %d, %v", c.name, b, v, r.Left(), r.End())
			}
		}
	}
}

func TestP1_1ElementsAreChecked(t *testing.T) {
	for _, b := range [][]byte{{6, 2, 128, 0}, {6, 2, 4, 128}, {2, 255}} {
		r := wire.Read(b)
		if l := r.Ints(9); l != nil || r.Left() != len(b) || r.End() != api.ErrForm {
			t.Errorf("Ints of %v: %v, left %d", b, l, r.Left())
		}
	}
	for _, b := range [][]byte{{4, 0, 1, 65}, {4, 2, 65, 4, 65}, {4, 0, 128, 0}} {
		r := wire.Read(b)
		if l := r.Strings(9); l != nil || r.Left() != len(b) || r.End() != api.ErrForm {
			t.Errorf("Strings of %v: %v, left %d", b, l, r.Left())
		}
	}
	long := string(make([]byte, 5000))
	r := wire.Read(wire.Strings(nil, []string{long, "a"}))
	if l := r.Strings(2); !slices.Equal(l, []string{long, "a"}) || r.End() != api.OK {
		t.Error("elements of any length", len(l), r.End())
	}
}

func TestP1_1MessagesRefuseOtherBytes(t *testing.T) {
	whole := wire.Msg(nil, api.Msg{Src: 1, Seq: 500, Data: []byte("ab")})
	for _, b := range [][]byte{
		nil,
		make([]byte, 8),
		make([]byte, 10),
		append(make([]byte, 8), 1),
		append(make([]byte, 8), 4, 1),
		append(make([]byte, 7), 128, 0, 0),
		whole[:len(whole)-1],
		append(slices.Clone(whole), 0),
	} {
		if m, e := wire.ReadMsg(b); e != api.ErrForm || !reflect.DeepEqual(m, api.Msg{}) {
			t.Errorf("message %v: %v, %v", b, m, e)
		}
	}
	if m, e := wire.ReadMsg(make([]byte, 9)); e != api.OK || !reflect.DeepEqual(m, api.Msg{}) {
		t.Error("zero message", m, e)
	}
}

func TestP1_1EffectsRefuseOtherBytes(t *testing.T) {
	whole := wire.Effects(nil, []api.Effect{{Kind: 1}, {Kind: 2, Data: []byte("ab")}})
	for _, b := range [][]byte{
		nil,
		{1},
		{2},
		{0, 0},
		append([]byte{2}, make([]byte, 14)...),
		append([]byte{2}, make([]byte, 16)...),
		append([]byte{4}, make([]byte, 15)...),
		append([]byte{128, 0}, make([]byte, 15)...),
		whole[:len(whole)-1],
		append(slices.Clone(whole), 0),
	} {
		if l, e := wire.ReadEffects(b); e != api.ErrForm || l != nil {
			t.Errorf("effects %v: %v, %v", b, l, e)
		}
	}
	if l, e := wire.ReadEffects([]byte{0}); e != api.OK || l != nil {
		t.Error("no effects", l, e)
	}
}

func TestP1_1EntriesRefuseOtherBytes(t *testing.T) {
	whole := wire.Entry(nil, api.Entry{Kind: 1, Data: []byte("ab")})
	for _, b := range [][]byte{
		nil,
		make([]byte, 7),
		make([]byte, 9),
		append(make([]byte, 7), 3),
		append(make([]byte, 6), 255, 0, 0),
		whole[:len(whole)-1],
		append(slices.Clone(whole), 0),
	} {
		if x, e := wire.ReadEntry(b); e != api.ErrForm || !reflect.DeepEqual(x, api.Entry{}) {
			t.Errorf("entry %v: %v, %v", b, x, e)
		}
	}
	if x, e := wire.ReadEntry(make([]byte, 8)); e != api.OK || !reflect.DeepEqual(x, api.Entry{}) {
		t.Error("zero entry", x, e)
	}
}

func TestP1_1ReaderReadsACopy(t *testing.T) {
	b := []byte{2, 4, 97, 98, 4, 97, 98, 4, 2, 4}
	r := wire.Read(b)
	clear(b)
	n, x := r.Int(), r.Bytes(2)
	clear(x)
	s, l := r.String(2), r.Ints(2)
	if n != 1 || s != "ab" || !slices.Equal(l, []int{1, 2}) || r.End() != api.OK {
		t.Error(n, s, l, r.End())
	}
	b = wire.Msg(nil, api.Msg{Data: []byte("abc")})
	r = wire.Read(b)
	m := r.Msg()
	m.Data[0] = 'z'
	if n, e := wire.ReadMsg(b); e != api.OK || string(n.Data) != "abc" {
		t.Error("a result shares memory with the argument", n, e)
	}
}

func TestP1_1ResultsShareNoMemory(t *testing.T) {
	l := []api.Effect{
		{Data: []byte("ab"), Msg: api.Msg{Data: []byte("cd")}},
		{Data: []byte("ef"), Msg: api.Msg{Data: []byte("gh")}},
	}
	k, e := wire.ReadEffects(wire.Effects(nil, l))
	if e != api.OK {
		t.Fatal(e)
	}
	_ = append(k[0].Msg.Data, 1, 2, 3)
	_ = append(k[0].Data, 1, 2, 3)
	clear(k[1].Msg.Data)
	k[1].Msg.Data = l[1].Msg.Data
	if !reflect.DeepEqual(k, l) {
		t.Error(k)
	}
}

func TestP1_1NilReader(t *testing.T) {
	var r *wire.Reader
	r.Fail()
	checkZeros(t, r, "nil")
	if r.Left() != 0 || r.End() != api.ErrState {
		t.Error(r.Left(), r.End())
	}
}

func TestP1_1ReaderOfNothing(t *testing.T) {
	for _, r := range []*wire.Reader{wire.Read(nil), wire.Read([]byte{}), {}} {
		if r.Left() != 0 || r.End() != api.OK {
			t.Error(r.Left(), r.End())
		}
	}
}

func TestP1_1EndNeedsEverythingRead(t *testing.T) {
	r := wire.Read([]byte{2, 4})
	for left := 2; left > 0; left-- {
		if r.Left() != left || r.End() != api.ErrForm || r.End() != api.ErrForm {
			t.Error(left, r.Left(), r.End())
		}
		r.Int()
	}
	if r.Left() != 0 || r.End() != api.OK || r.End() != api.OK {
		t.Error(r.Left(), r.End())
	}
	r.Fail()
	if r.End() != api.ErrForm {
		t.Error("failed at the end", r.End())
	}
}

func TestP3EqualReadersReadEqualValues(t *testing.T) {
	b := wire.Effects(nil, []api.Effect{{Kind: 1, Data: []byte("ab")}})
	r := wire.Read(append(b, 2, 8))
	first := *r
	l := r.Effects()
	n := r.Int()
	if k, m := first.Effects(), first.Int(); !reflect.DeepEqual(k, l) || m != n || n != 1 {
		t.Error(k, m, l, n)
	}
	if first.Left() != 1 || r.Left() != 1 || !bytes.Equal(first.Bytes(4), r.Bytes(4)) {
		t.Error(first.Left(), r.Left())
	}
}

// checkZeros calls every method that reads, and expects zero values and the
// same position.
func checkZeros(t *testing.T, r *wire.Reader, what string) {
	t.Helper()
	left := r.Left()
	for i, v := range []any{
		r.Int(), r.Bounded(-5, 5), r.Bounded(1, 5), r.Bounded(math.MinInt, math.MaxInt), r.Bounded(5, 1),
		r.Bool(), r.String(9), r.String(-1), r.Bytes(9), r.Bytes(math.MaxInt), r.Ints(9), r.Strings(9),
		r.Msg(), r.Effects(), r.Entry(),
	} {
		if !reflect.ValueOf(v).IsZero() || r.Left() != left {
			t.Errorf("%s: value %d is %v, left %d", what, i, v, r.Left())
		}
	}
}
