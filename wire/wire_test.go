package wire_test

import (
	"bytes"
	"math"
	"strings"
	"testing"

	"ratoon/api"
	"ratoon/wire"
)

// integers are the examples of the chapter, and integers on both sides of each
// number of bytes up to the last one of 64 bits.
var integers = []struct {
	n    int
	want []byte
}{
	{0, []byte{0}},
	{5, []byte{10}},
	{-1, []byte{1}},
	{1, []byte{2}},
	{63, []byte{126}},
	{-64, []byte{127}},
	{64, []byte{128, 1}},
	{-65, []byte{129, 1}},
	{100, []byte{200, 1}},
	{8191, []byte{254, 127}},
	{-8192, []byte{255, 127}},
	{8192, []byte{128, 128, 1}},
	{-8193, []byte{129, 128, 1}},
	{1<<62 - 1, []byte{254, 255, 255, 255, 255, 255, 255, 255, 127}},
	{-1 << 62, []byte{255, 255, 255, 255, 255, 255, 255, 255, 127}},
	{1 << 62, []byte{128, 128, 128, 128, 128, 128, 128, 128, 128, 1}},
	{math.MaxInt, []byte{254, 255, 255, 255, 255, 255, 255, 255, 255, 1}},
	{math.MinInt, []byte{255, 255, 255, 255, 255, 255, 255, 255, 255, 1}},
}

func TestP1_1IntIsEncodedAsSpecified(t *testing.T) {
	for _, c := range integers {
		if b := wire.Int(nil, c.n); !bytes.Equal(b, c.want) {
			t.Errorf("Int(%d) = %v, want %v", c.n, b, c.want)
		}
	}
}

// encodings are values of each type, encoded behind any bytes.
func encodings() []encoding {
	m := api.Msg{Src: 5, Dst: 9, Kind: 1, Seq: 64, Args: [4]int{-1, 0, 2, 3}, Data: []byte("x")}
	message := []byte{10, 18, 2, 128, 1, 1, 0, 4, 6, 2, 120}
	effects := []api.Effect{
		{Kind: 2, Args: [4]int{1, -2, 3, -4}, Data: []byte{7, 8}},
		{Kind: 1, Msg: m},
	}
	both := []byte{4, 4, 2, 3, 6, 7, 0, 0, 0, 0, 0, 0, 0, 0, 0, 4, 7, 8, 2, 0, 0, 0, 0}
	both = append(append(both, message...), 0)
	x := api.Entry{Kind: 2, Task: 16, Call: 3, Args: [3]int{-7, 70, 8}, Result: -5, Data: []byte{255}}
	return []encoding{
		{"Int", func(b []byte) []byte { return wire.Int(b, -65) }, []byte{129, 1}},
		{"Bool true", func(b []byte) []byte { return wire.Bool(b, true) }, []byte{1}},
		{"Bool false", func(b []byte) []byte { return wire.Bool(b, false) }, []byte{0}},
		{"String", func(b []byte) []byte { return wire.String(b, "ab") }, []byte{4, 97, 98}},
		{"String empty", func(b []byte) []byte { return wire.String(b, "") }, []byte{0}},
		{"Bytes", func(b []byte) []byte { return wire.Bytes(b, []byte{0, 200}) }, []byte{4, 0, 200}},
		{"Bytes nil", func(b []byte) []byte { return wire.Bytes(b, nil) }, []byte{0}},
		{"Bytes empty", func(b []byte) []byte { return wire.Bytes(b, []byte{}) }, []byte{0}},
		{"Ints", func(b []byte) []byte { return wire.Ints(b, []int{1, -2, 64}) }, []byte{6, 2, 3, 128, 1}},
		{"Ints nil", func(b []byte) []byte { return wire.Ints(b, nil) }, []byte{0}},
		{"Strings", func(b []byte) []byte { return wire.Strings(b, []string{"", "c"}) }, []byte{4, 0, 2, 99}},
		{"Strings nil", func(b []byte) []byte { return wire.Strings(b, nil) }, []byte{0}},
		{"Msg", func(b []byte) []byte { return wire.Msg(b, m) }, message},
		{"Msg zero", func(b []byte) []byte { return wire.Msg(b, api.Msg{}) }, make([]byte, 9)},
		{"Effects", func(b []byte) []byte { return wire.Effects(b, effects) }, both},
		{"Effects nil", func(b []byte) []byte { return wire.Effects(b, nil) }, []byte{0}},
		{"Entry", func(b []byte) []byte { return wire.Entry(b, x) }, []byte{4, 32, 6, 13, 140, 1, 16, 9, 2, 255}},
		{"Entry zero", func(b []byte) []byte { return wire.Entry(b, api.Entry{}) }, make([]byte, 8)},
	}
}

type encoding struct {
	name   string
	encode func([]byte) []byte
	want   []byte
}

func TestP1_1ValuesAreEncodedAsSpecified(t *testing.T) {
	for _, c := range encodings() {
		if b := c.encode(nil); !bytes.Equal(b, c.want) {
			t.Errorf("%s: %v, want %v", c.name, b, c.want)
		}
	}
}

func TestP1_1LengthsHaveSeveralBytes(t *testing.T) {
	long := strings.Repeat("z", 64)
	head := []byte{128, 1}
	if b := wire.String(nil, long); !bytes.Equal(b, append(head, long...)) {
		t.Error("String", b)
	}
	if b := wire.Bytes(nil, []byte(long)); !bytes.Equal(b, append(head, long...)) {
		t.Error("Bytes", b)
	}
	if b := wire.Ints(nil, make([]int, 64)); !bytes.Equal(b, append(head, make([]byte, 64)...)) {
		t.Error("Ints", b)
	}
	if b := wire.Strings(nil, make([]string, 64)); !bytes.Equal(b, append(head, make([]byte, 64)...)) {
		t.Error("Strings", b)
	}
	if b := wire.Effects(nil, make([]api.Effect, 64)); !bytes.Equal(b, append(head, make([]byte, 64*15)...)) {
		t.Error("Effects", len(b))
	}
}

func TestP1_1EncodingsFollowTheBytesThatAreThere(t *testing.T) {
	for _, c := range encodings() {
		for _, space := range []int{0, 1, 3, 5, 1000} {
			b := append(make([]byte, 0, 3+space), 9, 128, 7)
			got := c.encode(b)
			if want := append([]byte{9, 128, 7}, c.want...); !bytes.Equal(got, want) {
				t.Errorf("%s with space for %d: %v, want %v", c.name, space, got, want)
			}
			if !bytes.Equal(b, []byte{9, 128, 7}) {
				t.Errorf("%s with space for %d: the bytes in front became %v", c.name, space, b)
			}
		}
	}
}

// The bytes that are encoded may lie where the result is put.
func TestP1_1DataBehindTheBytesAreEncodedUnchanged(t *testing.T) {
	data := []byte("abcdefgh")
	for at := range 12 {
		cases := []struct {
			name   string
			encode func(b, x []byte) []byte
		}{
			{"Bytes", wire.Bytes},
			{"Msg", func(b, x []byte) []byte { return wire.Msg(b, api.Msg{Src: 1, Data: x}) }},
			{"Effects", func(b, x []byte) []byte {
				return wire.Effects(b, []api.Effect{{Kind: 1, Data: x}, {Kind: 2, Msg: api.Msg{Data: x}}})
			}},
			{"Entry", func(b, x []byte) []byte { return wire.Entry(b, api.Entry{Kind: 3, Data: x}) }},
		}
		for _, c := range cases {
			space := make([]byte, 200)
			x := space[at : at+len(data)]
			copy(x, data)
			got := c.encode(space[:0], x)
			if want := c.encode(nil, data); !bytes.Equal(got, want) {
				t.Errorf("%s of bytes at %d: %v, want %v", c.name, at, got, want)
			}
		}
	}
}

func TestP1_1EncodingsShareNoMemoryWithValues(t *testing.T) {
	x := []byte{1, 2, 3}
	b := wire.Bytes(nil, x)
	m := wire.Msg(nil, api.Msg{Data: x})
	l := wire.Effects(nil, []api.Effect{{Data: x, Msg: api.Msg{Data: x}}})
	y := wire.Entry(nil, api.Entry{Data: x})
	all := bytes.Join([][]byte{b, m, l, y}, nil)
	x[0], x[1], x[2] = 9, 9, 9
	if now := bytes.Join([][]byte{b, m, l, y}, nil); !bytes.Equal(now, all) {
		t.Error("an encoding changes with the value")
	}
	clear(b)
	clear(m)
	clear(l)
	clear(y)
	if !bytes.Equal(x, []byte{9, 9, 9}) {
		t.Error("a value changes with its encoding")
	}
}

func TestP3EqualValuesHaveEqualEncodings(t *testing.T) {
	again := encodings()
	for i, c := range encodings() {
		first := c.encode(nil)
		for range 3 {
			if b := again[i].encode(nil); !bytes.Equal(b, first) {
				t.Errorf("%s: %v, and later %v", c.name, first, b)
			}
		}
	}
}
