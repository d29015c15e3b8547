package wire_test

import (
	"bytes"
	"math"
	"math/rand"
	"reflect"
	"strconv"
	"testing"

	"ratoon/api"
	"ratoon/wire"
)

// codec is a type of values: how one is made, encoded and read. The made
// values have nil for what is empty, as it is decoded.
type codec struct {
	name   string
	make   func(*rand.Rand) any
	encode func([]byte, any) []byte
	read   func(*wire.Reader) any
}

func codecs() []codec {
	return []codec{
		codecOf("Int", makeInt, wire.Int, (*wire.Reader).Int),
		codecOf("Bounded", makeByte, wire.Int, func(r *wire.Reader) int { return r.Bounded(-100, 100) }),
		codecOf("Bool", makeBool, wire.Bool, (*wire.Reader).Bool),
		codecOf("String", makeString, wire.String, func(r *wire.Reader) string { return r.String(200) }),
		codecOf("Bytes", makeBytes, wire.Bytes, func(r *wire.Reader) []byte { return r.Bytes(200) }),
		codecOf("Ints", makeInts, wire.Ints, func(r *wire.Reader) []int { return r.Ints(200) }),
		codecOf("Strings", makeStrings, wire.Strings, func(r *wire.Reader) []string { return r.Strings(200) }),
		codecOf("Msg", makeMsg, wire.Msg, (*wire.Reader).Msg),
		codecOf("Effects", makeEffects, wire.Effects, (*wire.Reader).Effects),
		codecOf("Entry", makeEntry, wire.Entry, (*wire.Reader).Entry),
	}
}

func codecOf[T any](name string, one func(*rand.Rand) T, encode func([]byte, T) []byte, read func(*wire.Reader) T) codec {
	return codec{
		name,
		func(x *rand.Rand) any { return one(x) },
		func(b []byte, v any) []byte { return encode(b, v.(T)) },
		func(r *wire.Reader) any { return read(r) },
	}
}

// makeInt makes integers with any number of bytes.
func makeInt(x *rand.Rand) int {
	return int(x.Uint64()) >> x.Intn(64)
}

func makeByte(x *rand.Rand) int { return x.Intn(201) - 100 }

func makeBool(x *rand.Rand) bool { return x.Intn(2) == 1 }

func makeBytes(x *rand.Rand) []byte {
	return makeList(x, func(x *rand.Rand) byte { return byte(x.Intn(256)) })
}

func makeString(x *rand.Rand) string { return string(makeBytes(x)) }

func makeInts(x *rand.Rand) []int { return makeList(x, makeInt) }

func makeStrings(x *rand.Rand) []string { return makeList(x, makeString) }

func makeList[T any](x *rand.Rand, one func(*rand.Rand) T) []T {
	var l []T
	for range x.Intn(4) * x.Intn(30) {
		l = append(l, one(x))
	}
	return l
}

func makeArgs(x *rand.Rand) [4]int {
	return [4]int{makeInt(x), makeInt(x), makeInt(x), makeInt(x)}
}

func makeMsg(x *rand.Rand) api.Msg {
	return api.Msg{Src: makeInt(x), Dst: makeInt(x), Kind: makeInt(x), Seq: makeInt(x), Args: makeArgs(x), Data: makeBytes(x)}
}

func makeEffects(x *rand.Rand) []api.Effect {
	return makeList(x, func(x *rand.Rand) api.Effect {
		return api.Effect{Kind: makeInt(x), Args: makeArgs(x), Msg: makeMsg(x), Data: makeBytes(x)}
	})
}

func makeEntry(x *rand.Rand) api.Entry {
	args := [3]int{makeInt(x), makeInt(x), makeInt(x)}
	return api.Entry{Kind: makeInt(x), Task: makeInt(x), Call: makeInt(x), Args: args, Result: makeInt(x), Data: makeBytes(x)}
}

func TestP1_2ValuesAreReadAgain(t *testing.T) {
	x := rand.New(rand.NewSource(1))
	for _, c := range codecs() {
		for range 200 {
			v, behind := c.make(x), makeBytes(x)
			b := append(c.encode(nil, v), behind...)
			r := wire.Read(b)
			if w := c.read(r); !reflect.DeepEqual(w, v) || r.Left() != len(behind) {
				t.Fatalf("%s: %v was read as %v, left %d of %d", c.name, v, w, r.Left(), len(behind))
			}
			if end := r.End(); (end == api.OK) != (len(behind) == 0) {
				t.Fatalf("%s: %v with %d bytes behind it", c.name, end, len(behind))
			}
		}
	}
}

func TestP1_2ValuesAreReadOneAfterTheOther(t *testing.T) {
	x := rand.New(rand.NewSource(2))
	all := codecs()
	for range 100 {
		var b []byte
		var kinds []codec
		var values []any
		for range 12 {
			c := all[x.Intn(len(all))]
			v := c.make(x)
			b, kinds, values = c.encode(b, v), append(kinds, c), append(values, v)
		}
		r := wire.Read(b)
		for i, c := range kinds {
			if w := c.read(r); !reflect.DeepEqual(w, values[i]) {
				t.Fatalf("%s: %v was read as %v", c.name, values[i], w)
			}
		}
		if r.End() != api.OK {
			t.Fatal(r.End())
		}
	}
}

// checkCanonical reads bytes as each type, and expects that those that are
// read to the end are what is encoded. It returns how often that happened.
func checkCanonical(t *testing.T, b []byte) int {
	t.Helper()
	accepted := 0
	for _, c := range codecs() {
		r := wire.Read(b)
		v := c.read(r)
		if r.End() != api.OK {
			continue
		}
		accepted++
		if again := c.encode(nil, v); !bytes.Equal(again, b) {
			t.Errorf("%s: %v was read as %v, whose encoding is %v", c.name, b, v, again)
		}
	}
	return accepted
}

func TestP1_3ShortBytesAreCanonical(t *testing.T) {
	for i := range 256 {
		checkCanonical(t, []byte{byte(i)})
		for j := range 256 {
			checkCanonical(t, []byte{byte(i), byte(j)})
		}
	}
	some := []byte{0, 1, 2, 3, 4, 6, 127, 128, 129, 255}
	for i := range 100000 {
		b := make([]byte, 5)
		for j := range b {
			b[j] = some[i%10]
			i /= 10
		}
		checkCanonical(t, b)
	}
}

func TestP1_3ChangedEncodingsAreCanonical(t *testing.T) {
	x := rand.New(rand.NewSource(3))
	accepted := 0
	for _, c := range codecs() {
		for range 300 {
			b := c.encode(nil, c.make(x))
			checkCanonical(t, b)
			at := x.Intn(len(b))
			switch x.Intn(3) {
			case 0:
				b[at] ^= 1 << x.Intn(8)
			case 1:
				b = append(b[:at], b[at+1:]...)
			case 2:
				b = append(b[:at], append([]byte{byte(x.Intn(256))}, b[at:]...)...)
			}
			accepted += checkCanonical(t, b)
		}
	}
	if accepted < 300 {
		t.Error("only", accepted, "changed encodings were encodings again")
	}
}

func TestP1_3DifferentValuesHaveDifferentEncodings(t *testing.T) {
	x := rand.New(rand.NewSource(4))
	for _, c := range codecs() {
		seen := map[string]any{}
		for range 200 {
			v := c.make(x)
			b := string(c.encode(nil, v))
			if w, ok := seen[b]; ok && !reflect.DeepEqual(v, w) {
				t.Fatalf("%s: %v and %v have the encoding %v", c.name, v, w, b)
			}
			seen[b] = v
		}
	}
}

func TestP1_4BeginningsAreNoEncodings(t *testing.T) {
	x := rand.New(rand.NewSource(5))
	for _, c := range codecs() {
		for range 20 {
			b := c.encode(nil, c.make(x))
			for n := range len(b) {
				r := wire.Read(b[:n])
				if v := c.read(r); r.End() != api.ErrForm || r.Left() != n || !reflect.ValueOf(v).IsZero() {
					t.Fatalf("%s: %d of the bytes %v were read as %v", c.name, n, b, v)
				}
			}
		}
	}
}

func TestP1_5ReadersThatHaveFailedStaySo(t *testing.T) {
	good := append([]byte{0, 2, 0, 2, 0}, make([]byte, 40)...)
	for _, c := range []struct {
		name string
		bad  []byte
		fail func(*wire.Reader)
	}{
		{"Fail", nil, (*wire.Reader).Fail},
		{"Int", []byte{128, 0}, func(r *wire.Reader) { r.Int() }},
		{"Bounded", []byte{6}, func(r *wire.Reader) { r.Bounded(0, 2) }},
		{"Bool", []byte{2}, func(r *wire.Reader) { r.Bool() }},
		{"String", []byte{8}, func(r *wire.Reader) { r.String(3) }},
		{"Bytes", []byte{8}, func(r *wire.Reader) { r.Bytes(3) }},
		{"Ints", []byte{8}, func(r *wire.Reader) { r.Ints(3) }},
		{"Strings", []byte{8}, func(r *wire.Reader) { r.Strings(3) }},
		{"Msg", []byte{0, 0, 128, 0}, func(r *wire.Reader) { r.Msg() }},
		{"Effects", []byte{2, 0, 128, 0}, func(r *wire.Reader) { r.Effects() }},
		{"Entry", []byte{0, 0, 128, 0}, func(r *wire.Reader) { r.Entry() }},
	} {
		r := wire.Read(append(append([]byte{10}, c.bad...), good...))
		if r.Int() != 5 {
			t.Fatal(c.name, "the value in front was not read")
		}
		c.fail(r)
		for range 2 {
			checkZeros(t, r, c.name)
			r.Fail()
		}
		if r.Left() != len(c.bad)+len(good) || r.End() != api.ErrForm {
			t.Error(c.name, r.Left(), r.End())
		}
	}
}

// sizes are numbers of bytes of Data, with whether they are decoded.
var sizes = map[int]bool{0: true, 1: true, 63: true, 64: true, 1535: true, 1536: true, 1537: false, 5000: false}

func TestP1_6DataHaveAtMost1536Bytes(t *testing.T) {
	if api.MaxBytes != 1536 || api.MaxEffects != 160 {
		t.Fatal("the limits are other ones")
	}
	for n, fits := range sizes {
		data := bytes.Repeat([]byte{7}, n)
		m := api.Msg{Src: 1, Args: [4]int{math.MinInt, math.MaxInt}, Data: data}
		checkDecoded(t, "Msg "+strconv.Itoa(n), fits, m, wire.Msg, wire.ReadMsg)
		x := api.Entry{Kind: 1, Result: math.MinInt, Data: data}
		checkDecoded(t, "Entry "+strconv.Itoa(n), fits, x, wire.Entry, wire.ReadEntry)
		own := []api.Effect{{Kind: 1}, {Kind: 2, Data: data}}
		checkDecoded(t, "Effects "+strconv.Itoa(n), fits, own, wire.Effects, wire.ReadEffects)
		inner := []api.Effect{{Kind: 1}, {Kind: 2, Msg: m}}
		checkDecoded(t, "Effects with messages "+strconv.Itoa(n), fits, inner, wire.Effects, wire.ReadEffects)
	}
}

func TestP1_6ListsHaveAtMost160Effects(t *testing.T) {
	for n, fits := range map[int]bool{1: true, 159: true, 160: true, 161: false, 1000: false} {
		l := make([]api.Effect, n)
		for i := range l {
			l[i] = api.Effect{Kind: i, Msg: api.Msg{Seq: -i}}
		}
		checkDecoded(t, strconv.Itoa(n), fits, l, wire.Effects, wire.ReadEffects)
	}
}

func TestP1_6LargestEffects(t *testing.T) {
	l := make([]api.Effect, api.MaxEffects)
	for i := range l {
		data := bytes.Repeat([]byte{byte(i)}, api.MaxBytes)
		l[i] = api.Effect{Kind: i, Msg: api.Msg{Seq: math.MaxInt, Data: data}, Data: data}
	}
	checkDecoded(t, "largest", true, l, wire.Effects, wire.ReadEffects)
}

// checkDecoded expects that a value is decoded from its encoding if it fits,
// and that there is an error otherwise; a reader does the same.
func checkDecoded[T any](t *testing.T, what string, fits bool, v T, encode func([]byte, T) []byte, decode func([]byte) (T, api.Errno)) {
	t.Helper()
	want, wantError := v, api.OK
	if !fits {
		var zero T
		want, wantError = zero, api.ErrForm
	}
	w, e := decode(encode(nil, v))
	if e != wantError || !sameValue(w, want) {
		t.Errorf("%s: %v", what, e)
	}
}

// sameValue compares values by their encodings, as nil and empty bytes are the
// same value.
func sameValue(v, w any) bool {
	switch v := v.(type) {
	case api.Msg:
		return bytes.Equal(wire.Msg(nil, v), wire.Msg(nil, w.(api.Msg)))
	case api.Entry:
		return bytes.Equal(wire.Entry(nil, v), wire.Entry(nil, w.(api.Entry)))
	case []api.Effect:
		return bytes.Equal(wire.Effects(nil, v), wire.Effects(nil, w.([]api.Effect)))
	}
	return false
}

// The seeds run with every test; `go test -fuzz=Canonical ./wire` looks further.
func FuzzP1_3Canonical(f *testing.F) {
	for _, c := range encodings() {
		f.Add(c.want)
	}
	for _, b := range noIntegers {
		f.Add(b)
	}
	f.Fuzz(func(t *testing.T, b []byte) { checkCanonical(t, b) })
}
