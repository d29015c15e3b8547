package sum_test

import (
	"math"
	"math/big"
	"math/rand"
	"slices"
	"testing"

	"ratoon/api"
	"ratoon/sum"
)

// slowStep computes a step with large numbers, as the chapter defines it.
func slowStep(h uint64, c byte) uint64 {
	factor := new(big.Int).SetUint64(0xD1B54A32D192ED03)
	k := new(big.Int).SetUint64(h)
	k.Xor(k, big.NewInt(int64(c)))
	k.Mul(k, factor)
	k.Mod(k, new(big.Int).Lsh(big.NewInt(1), 64))
	return k.Xor(k, new(big.Int).Rsh(k, 29)).Uint64()
}

func slowFrom(h uint64, b []byte) uint64 {
	for _, c := range b {
		h = slowStep(h, c)
	}
	return h
}

// eight returns the eight bytes of an integer, the least significant one first.
func eight(n int) []byte {
	two64 := new(big.Int).Lsh(big.NewInt(1), 64)
	x := new(big.Int).Mod(big.NewInt(int64(n)), two64)
	b := x.FillBytes(make([]byte, 8))
	slices.Reverse(b)
	return b
}

func slowOf(b []byte) uint64 {
	return slowFrom(slowFrom(sum.Start, b), eight(len(b)))
}

func slowAnswer(device, tag, answer int, data []byte) int {
	var b []byte
	for _, n := range []int{device, tag, answer, len(data)} {
		b = append(b, eight(n)...)
	}
	return int(slowFrom(sum.Start, append(b, data...)))
}

func counted(n int) []byte {
	b := make([]byte, n)
	for i := range b {
		b[i] = byte(i)
	}
	return b
}

func randomBytes(x *rand.Rand, most int) []byte {
	b := make([]byte, x.Intn(most+1))
	x.Read(b)
	return b
}

// numbers are those at the limits of bytes and of integers.
func numbers() []int {
	l := []int{0, 1, -1, math.MaxInt, math.MinInt, math.MaxInt - 1, math.MinInt + 1}
	for i := range 63 {
		l = append(l, 1<<i, 1<<i-1, -1<<i)
	}
	return l
}

func TestP2_1Start(t *testing.T) {
	// The constant fits numbers and integers.
	var h uint64 = sum.Start
	var n int = sum.Start
	if h != 125762890854254 || n != 125762890854254 {
		t.Error(h, n)
	}
}

func TestP2_1From(t *testing.T) {
	for _, c := range []struct {
		h    uint64
		b    []byte
		want uint64
	}{
		{7, nil, 7},
		{7, []byte{}, 7},
		{0, []byte{0}, 0},
		{0, []byte{1}, 0xd1b54a345c38bc95},
		{1, []byte{0}, 0xd1b54a345c38bc95},
		{math.MaxUint64, []byte{255}, 0x4ab5cd2c38bc9473},
		{sum.Start, []byte("ratoon"), 0xaa4c0529b88effed},
		{5, counted(256), 0xc357cc7fc3a161a2},
	} {
		if got := sum.From(c.h, c.b); got != c.want {
			t.Errorf("from %d of %v: %x instead of %x", c.h, c.b, got, c.want)
		}
	}
}

func TestP2_1Of(t *testing.T) {
	for _, c := range []struct {
		b    []byte
		want uint64
	}{
		{nil, 0xc4874a077fd5873d},
		{[]byte{}, 0xc4874a077fd5873d},
		{[]byte{0}, 0x3a8fc3971023e143},
		{[]byte("a"), 0x4c28030315ebf425},
		{[]byte("ab"), 0x2d87812838901a53},
		{[]byte("ba"), 0x0f0850597ae4bcd8},
		{[]byte("ratoon"), 0xc6cf92f735fa7582},
		{make([]byte, 300), 0x33af89be063eaefe},
	} {
		if got := sum.Of(c.b); got != c.want {
			t.Errorf("of %v: %x instead of %x", c.b, got, c.want)
		}
	}
}

func TestP2_1Answer(t *testing.T) {
	for _, c := range []struct {
		device, tag, answer int
		data                []byte
		want                int
	}{
		{0, 0, 0, nil, 6925662642163100665},
		{0, 0, 0, []byte{}, 6925662642163100665},
		{4, 0, 0, nil, -8009160570686608196},
		{1, 2, 3, []byte("abc"), -7016525657179357337},
		{-1, -2, -3, []byte{0}, 3518162902642333199},
		{math.MaxInt, math.MinInt, 256, make([]byte, 128), 2497372388496401611},
		{2, 1, 0, []byte{255}, -4184047233718254145},
	} {
		if got := sum.Answer(c.device, c.tag, c.answer, c.data); got != c.want {
			t.Errorf("%+v: %d", c, got)
		}
	}
}

func TestP2_1SumsAreThoseOfTheDefinition(t *testing.T) {
	x := rand.New(rand.NewSource(1))
	for range 300 {
		h, b := x.Uint64(), randomBytes(x, 300)
		if got := sum.From(h, b); got != slowFrom(h, b) {
			t.Fatalf("from %d of %v: %x", h, b, got)
		}
		if got := sum.Of(b); got != slowOf(b) {
			t.Fatalf("of %v: %x", b, got)
		}
		l := numbers()
		device, tag, answer := l[x.Intn(len(l))], int(x.Uint64()), l[x.Intn(len(l))]
		if got := sum.Answer(device, tag, answer, b); got != slowAnswer(device, tag, answer, b) {
			t.Fatalf("%d %d %d %v: %d", device, tag, answer, b, got)
		}
	}
}

func TestP2_1EqualArgumentsHaveEqualResults(t *testing.T) {
	b := counted(20)
	h, of, answer := sum.From(9, b), sum.Of(b), sum.Answer(1, 2, 3, b)
	sum.Of([]byte("something else"))
	if sum.From(9, b) != h || sum.Of(b) != of || sum.Answer(1, 2, 3, b) != answer {
		t.Error("the results differ")
	}
	if string(b) != string(counted(20)) {
		t.Error("the argument was changed:", b)
	}
}

func TestP2_1Right(t *testing.T) {
	x := rand.New(rand.NewSource(2))
	for range 200 {
		b := randomBytes(x, 130)
		m := api.Msg{Src: x.Int(), Dst: x.Int(), Kind: x.Int(), Seq: x.Int(), Data: b}
		m.Args = [4]int{x.Intn(6) - 1, int(x.Uint64()), x.Intn(3) - 1, 0}
		m.Args[3] = slowAnswer(m.Args[0], m.Args[1], m.Args[2], b)
		if !sum.Right(m) {
			t.Fatalf("%+v is not right", m)
		}
		// The other fields are not part of the answer.
		m.Src, m.Dst, m.Kind, m.Seq = -1, 0, api.MsgIRQ, 1
		if !sum.Right(m) {
			t.Fatalf("%+v is not right", m)
		}
	}
}

func TestP2_1MessagesThatAreNotRight(t *testing.T) {
	right := slowAnswer(4, 0, 0, nil)
	for _, m := range []api.Msg{
		{},
		{Args: [4]int{4, 0, 0, 0}},
		{Args: [4]int{4, 0, 0, -right}},
		{Args: [4]int{4, 0, 0, int(uint32(right))}},
		{Args: [4]int{4, 0, 0, right}, Data: []byte{0}},
		{Args: [4]int{0, 4, 0, right}},
		{Args: [4]int{0, 0, 4, right}},
	} {
		if sum.Right(m) {
			t.Errorf("%+v is right", m)
		}
	}
	if !sum.Right(api.Msg{Args: [4]int{4, 0, 0, right}, Data: []byte{}}) {
		t.Error("the empty answer of the clock is not right")
	}
}

func TestP2_1Digits(t *testing.T) {
	for _, c := range []struct {
		h    uint64
		want string
	}{
		{0, "0000000000000000"},
		{256, "0000000000000100"},
		{10, "000000000000000a"},
		{1 << 63, "8000000000000000"},
		{math.MaxUint64, "ffffffffffffffff"},
		{0x0123456789abcdef, "0123456789abcdef"},
		{0xfedcba9876543210, "fedcba9876543210"},
	} {
		if got := sum.Digits(c.h); got != c.want {
			t.Errorf("%d: %q instead of %q", c.h, got, c.want)
		}
	}
}
