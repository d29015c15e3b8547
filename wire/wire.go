// Package wire implements layer 1: the encoding of values. See shared/doc/01-wire.md.
package wire

import (
	"slices"

	"ratoon/api"
)

// Int appends the encoding of an integer.
func Int(b []byte, n int) []byte {
	u := uint64(n)<<1 ^ uint64(n>>63)
	for u >= 128 {
		b = append(b, byte(u)|128)
		u >>= 7
	}
	return append(b, byte(u))
}

// Bool appends the encoding of a Boolean value.
func Bool(b []byte, v bool) []byte {
	if v {
		return append(b, 1)
	}
	return append(b, 0)
}

// String appends the encoding of a string.
func String(b []byte, s string) []byte {
	return append(Int(b, len(s)), s...)
}

// Bytes appends the encoding of a byte string.
func Bytes(b, x []byte) []byte {
	return withData(b, nil, x)
}

// Ints appends the encoding of a list of integers.
func Ints(b []byte, l []int) []byte {
	return numbers(Int(b, len(l)), l...)
}

// Strings appends the encoding of a list of strings.
func Strings(b []byte, l []string) []byte {
	b = Int(b, len(l))
	for _, s := range l {
		b = String(b, s)
	}
	return b
}

// Msg appends the encoding of a message.
func Msg(b []byte, m api.Msg) []byte {
	head := numbers(nil, m.Src, m.Dst, m.Kind, m.Seq)
	return withData(b, numbers(head, m.Args[:]...), m.Data)
}

// Effects appends the encoding of a list of effects.
func Effects(b []byte, l []api.Effect) []byte {
	// The list is encoded in memory of its own, as the Data of any effect may
	// lie in the memory behind b.
	own := Int(nil, len(l))
	for _, x := range l {
		own = numbers(Int(own, x.Kind), x.Args[:]...)
		own = Bytes(Msg(own, x.Msg), x.Data)
	}
	return append(b, own...)
}

// Entry appends the encoding of an entry.
func Entry(b []byte, x api.Entry) []byte {
	head := numbers(nil, x.Kind, x.Task, x.Call)
	head = Int(numbers(head, x.Args[:]...), x.Result)
	return withData(b, head, x.Data)
}

// numbers appends the encodings of integers.
func numbers(b []byte, l ...int) []byte {
	for _, n := range l {
		b = Int(b, n)
	}
	return b
}

// withData appends head, which has memory of its own, and the encoding of data.
// The data may lie in the memory behind b that the result uses, so they are
// moved to their place before anything else is written there.
func withData(b, head, data []byte) []byte {
	head = Int(head, len(data))
	from, to := len(b), len(b)+len(head)
	b = slices.Grow(b, len(head)+len(data))[:to+len(data)]
	copy(b[to:], data)
	copy(b[from:], head)
	return b
}
