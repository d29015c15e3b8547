package wire

import (
	"math"
	"slices"

	"ratoon/api"
)

// Reader reads values. When it has failed, it reads zero values from then on.
type Reader struct {
	b      []byte
	at     int
	failed bool
}

// Read returns a reader of a copy of bytes.
func Read(b []byte) *Reader {
	return &Reader{b: slices.Clone(b)}
}

// Int reads an integer.
func (r *Reader) Int() int {
	if r == nil || r.failed {
		return 0
	}
	u, size := number(r.b[r.at:])
	if size == 0 {
		r.failed = true
		return 0
	}
	r.at += size
	return int(u>>1) ^ -int(u&1)
}

// Bounded reads an integer from least to most.
func (r *Reader) Bounded(least, most int) int {
	return value(r, func() int {
		n := r.Int()
		if n < least || n > most {
			r.Fail()
		}
		return n
	})
}

// Bool reads a Boolean value.
func (r *Reader) Bool() bool {
	return value(r, func() bool {
		b := r.next(1)
		if len(b) == 0 || b[0] > 1 {
			r.Fail()
			return false
		}
		return b[0] == 1
	})
}

// String reads a string of at most so many bytes.
func (r *Reader) String(most int) string {
	return value(r, func() string {
		return string(r.next(r.Bounded(0, most)))
	})
}

// Bytes reads a byte string of at most so many bytes; an empty one is nil.
func (r *Reader) Bytes(most int) []byte {
	return value(r, func() []byte {
		return append([]byte(nil), r.next(r.Bounded(0, most))...)
	})
}

// Ints reads a list of at most so many integers.
func (r *Reader) Ints(most int) []int {
	return list(r, most, r.Int)
}

// Strings reads a list of at most so many strings.
func (r *Reader) Strings(most int) []string {
	return list(r, most, r.anyString)
}

// Msg reads a message.
func (r *Reader) Msg() api.Msg {
	return value(r, func() api.Msg {
		var m api.Msg
		r.fill(&m.Src, &m.Dst, &m.Kind, &m.Seq)
		r.fill(&m.Args[0], &m.Args[1], &m.Args[2], &m.Args[3])
		m.Data = r.Bytes(api.MaxBytes)
		return m
	})
}

// Effects reads a list of effects.
func (r *Reader) Effects() []api.Effect {
	return list(r, api.MaxEffects, r.effect)
}

// Entry reads an entry.
func (r *Reader) Entry() api.Entry {
	return value(r, func() api.Entry {
		var x api.Entry
		r.fill(&x.Kind, &x.Task, &x.Call)
		r.fill(&x.Args[0], &x.Args[1], &x.Args[2], &x.Result)
		x.Data = r.Bytes(api.MaxBytes)
		return x
	})
}

// Fail lets the reader fail.
func (r *Reader) Fail() {
	if r != nil {
		r.failed = true
	}
}

// Left returns the number of bytes behind the position.
func (r *Reader) Left() int {
	if r == nil {
		return 0
	}
	return len(r.b) - r.at
}

// End reports whether everything was read.
func (r *Reader) End() api.Errno {
	switch {
	case r == nil:
		return api.ErrState
	case r.failed || r.Left() > 0:
		return api.ErrForm
	}
	return api.OK
}

// ReadMsg returns the message with an encoding.
func ReadMsg(b []byte) (api.Msg, api.Errno) {
	return whole(b, (*Reader).Msg)
}

// ReadEffects returns the effects with an encoding.
func ReadEffects(b []byte) ([]api.Effect, api.Errno) {
	return whole(b, (*Reader).Effects)
}

// ReadEntry returns the entry with an encoding.
func ReadEntry(b []byte) (api.Entry, api.Errno) {
	return whole(b, (*Reader).Entry)
}

// number decodes the number of 64 bits that b begins with, and returns it with
// the number of its bytes; this is 0 if there is no such number.
func number(b []byte) (u uint64, size int) {
	for i, c := range b[:min(len(b), 10)] {
		u |= uint64(c&127) << (7 * i)
		switch {
		case c >= 128:
		case i > 0 && c == 0, i == 9 && c > 1:
			return 0, 0
		default:
			return u, i + 1
		}
	}
	return 0, 0
}

// value reads a value that has several parts, all of them or none: if a part
// fails, the position goes back to where the value begins.
func value[T any](r *Reader, parts func() T) T {
	var zero T
	if r == nil || r.failed {
		return zero
	}
	start := r.at
	v := parts()
	if r.failed {
		r.at = start
		return zero
	}
	return v
}

// list reads a list of at most so many elements. Memory is taken as elements
// are read, as the number in front of them may be far too large.
func list[T any](r *Reader, most int, one func() T) []T {
	return value(r, func() []T {
		var l []T
		for range r.Bounded(0, most) {
			l = append(l, one())
			if r.failed {
				break
			}
		}
		return l
	})
}

// whole returns the value whose encoding consists of all the bytes.
func whole[T any](b []byte, read func(*Reader) T) (T, api.Errno) {
	r := Read(b)
	v := read(r)
	if e := r.End(); e != api.OK {
		var zero T
		return zero, e
	}
	return v, api.OK
}

// next returns the next n bytes, which stay the reader's own.
func (r *Reader) next(n int) []byte {
	if r.failed || n > r.Left() {
		r.failed = true
		return nil
	}
	r.at += n
	return r.b[r.at-n : r.at]
}

// fill reads an integer for each place.
func (r *Reader) fill(places ...*int) {
	for _, p := range places {
		*p = r.Int()
	}
}

// anyString reads a string of any length.
func (r *Reader) anyString() string {
	return r.String(math.MaxInt)
}

// effect reads an effect.
func (r *Reader) effect() api.Effect {
	return value(r, func() api.Effect {
		var x api.Effect
		r.fill(&x.Kind, &x.Args[0], &x.Args[1], &x.Args[2], &x.Args[3])
		x.Msg = r.Msg()
		x.Data = r.Bytes(api.MaxBytes)
		return x
	})
}
