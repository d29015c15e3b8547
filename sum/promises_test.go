package sum_test

import (
	"fmt"
	"math"
	"math/big"
	"math/rand"
	"slices"
	"strings"
	"testing"

	"ratoon/api"
	"ratoon/sum"
)

// back returns the number from which the sum of bytes is h. That there is one
// shows that no two numbers have the same sum of these bytes.
func back(h uint64, b []byte) uint64 {
	two64 := new(big.Int).Lsh(big.NewInt(1), 64)
	inverse := new(big.Int).SetUint64(0xD1B54A32D192ED03)
	inverse.ModInverse(inverse, two64)
	for _, c := range slices.Backward(b) {
		k := h ^ h>>29 ^ h>>58
		h = k*inverse.Uint64() ^ uint64(c)
	}
	return h
}

func TestP2_2DifferentNumbersHaveDifferentSums(t *testing.T) {
	x := rand.New(rand.NewSource(1))
	for range 500 {
		h, b := x.Uint64()>>x.Intn(64), randomBytes(x, 40)
		if got := back(sum.From(h, b), b); got != h {
			t.Fatalf("the sum of %v from %d is that from %d, too", b, h, got)
		}
		if bit := uint64(1) << x.Intn(64); sum.From(h^bit, b) == sum.From(h, b) {
			t.Fatalf("the sum of %v from %d is that from %d, too", b, h, h^bit)
		}
	}
}

func TestP2_2AChangedByteChangesTheSums(t *testing.T) {
	x := rand.New(rand.NewSource(2))
	for _, n := range []int{1, 2, 8, 128} {
		b := make([]byte, n)
		x.Read(b)
		h := x.Uint64()
		from, of := sum.From(h, b), sum.Of(b)
		for at := range n {
			for change := 1; change < 256; change++ {
				b[at] ^= byte(change)
				if sum.From(h, b) == from || sum.Of(b) == of {
					t.Fatalf("byte %d of %d: the change by %d does not show", at, n, change)
				}
				b[at] ^= byte(change)
			}
		}
	}
}

func TestP2_2NumbersOfZerosHaveDifferentChecksums(t *testing.T) {
	seen := map[uint64]int{}
	for n := range 600 {
		h := sum.Of(make([]byte, n))
		if m, ok := seen[h]; ok {
			t.Fatalf("%d and %d zeros have the same checksum", m, n)
		}
		seen[h] = n
	}
}

func TestP2_3Parts(t *testing.T) {
	x := rand.New(rand.NewSource(3))
	for range 100 {
		h, b := x.Uint64(), randomBytes(x, 60)
		for at := range len(b) + 1 {
			if sum.From(sum.From(h, b[:at]), b[at:]) != sum.From(h, b) {
				t.Fatalf("from %d of %v: the parts before and behind %d have another sum", h, b, at)
			}
		}
	}
}

// checkChanges expects that a right message is not right any more after the
// change of any one byte of its first four arguments or of its data.
func checkChanges(t *testing.T, m api.Msg) {
	t.Helper()
	m.Args[3] = sum.Answer(m.Args[0], m.Args[1], m.Args[2], m.Data)
	if !sum.Right(m) {
		t.Fatalf("%+v is not right", m)
	}
	for change := 1; change < 256; change++ {
		for at := range m.Data {
			m.Data[at] ^= byte(change)
			if sum.Right(m) || sum.Answer(m.Args[0], m.Args[1], m.Args[2], m.Data) == m.Args[3] {
				t.Fatalf("%+v: the change of byte %d by %d does not show", m, at, change)
			}
			m.Data[at] ^= byte(change)
		}
		for at := range 32 {
			was := m.Args
			m.Args[at/8] ^= change << (at % 8 * 8)
			if sum.Right(m) || at < 24 && sum.Answer(m.Args[0], m.Args[1], m.Args[2], m.Data) == m.Args[3] {
				t.Fatalf("%+v: the change of byte %d of the arguments by %d does not show", m, at, change)
			}
			m.Args = was
		}
	}
}

func TestP2_4AChangedByteChangesTheAnswer(t *testing.T) {
	x := rand.New(rand.NewSource(4))
	checkChanges(t, api.Msg{})
	checkChanges(t, api.Msg{Args: [4]int{-1, -1, -1}, Data: []byte{0}})
	checkChanges(t, api.Msg{Args: [4]int{math.MaxInt, math.MinInt, 0}, Data: make([]byte, 128)})
	for range 10 {
		args := [4]int{int(x.Uint64()), int(x.Uint64()), int(x.Uint64())}
		checkChanges(t, api.Msg{Args: args, Data: randomBytes(x, 20)})
	}
}

func TestP2_4NumbersOfZerosHaveDifferentAnswers(t *testing.T) {
	seen := map[int]int{}
	for n := range 600 {
		h := sum.Answer(1, 2, 0, make([]byte, n))
		if m, ok := seen[h]; ok {
			t.Fatalf("the answers with %d and %d zeros have the same checksum", m, n)
		}
		seen[h] = n
	}
}

func checkDigits(t *testing.T, h uint64) {
	t.Helper()
	s := sum.Digits(h)
	if s != fmt.Sprintf("%016x", h) {
		t.Fatalf("the digits of %d are %q", h, s)
	}
	if got, e := sum.Parse(s); got != h || e != api.OK {
		t.Fatalf("%q: %d %d", s, got, e)
	}
}

func TestP2_5ParseReturnsEveryNumber(t *testing.T) {
	for _, n := range numbers() {
		checkDigits(t, uint64(n))
	}
	for at := range 16 {
		for digit := range uint64(16) {
			checkDigits(t, digit<<(4*at))
		}
	}
	x := rand.New(rand.NewSource(5))
	for range 1000 {
		checkDigits(t, x.Uint64())
	}
}

func checkNoDigits(t *testing.T, s string) {
	t.Helper()
	if h, e := sum.Parse(s); h != 0 || e != api.ErrSyntax {
		t.Fatalf("%q: %d %d", s, h, e)
	}
}

func TestP2_5ParseAcceptsNothingElse(t *testing.T) {
	for n := range 40 {
		if n != 16 {
			checkNoDigits(t, strings.Repeat("1", n))
			checkNoDigits(t, strings.Repeat("0", n))
		}
	}
	for _, s := range []string{
		"", "0x00000000000001", "+000000000000001", "-000000000000001",
		"000000000000000A", " 00000000000000f", "00000000000000f ", "0000_0000_0000_0",
		"0123456789abcdef\n", "\x00000000000000000", "123456789012345g", "00000000000000é",
	} {
		checkNoDigits(t, s)
	}
	for at := range 16 {
		for c := range 256 {
			if strings.IndexByte("0123456789abcdef", byte(c)) < 0 {
				b := []byte("fedcba9876543210")
				b[at] = byte(c)
				checkNoDigits(t, string(b))
			}
		}
	}
}

func FuzzP2_5Parse(f *testing.F) {
	f.Add("0123456789abcdef")
	f.Add("0123456789ABCDEF")
	f.Fuzz(func(t *testing.T, s string) {
		h, e := sum.Parse(s)
		if (e == api.OK) != (sum.Digits(h) == s) || e != api.OK && (h != 0 || e != api.ErrSyntax) {
			t.Errorf("%q: %d %d", s, h, e)
		}
	})
}
