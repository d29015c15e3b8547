package frames_test

import (
	"bytes"
	"math/rand"
	"slices"
	"testing"

	"ratoon/api"
	"ratoon/frames"
)

// memory is a model of a memory: all of its bytes.
type memory [96][128]byte

// of returns the model of a memory.
func of(t *testing.T, m frames.Memory) memory {
	t.Helper()
	if !frames.Valid(m) {
		t.Fatal("not valid")
	}
	var all memory
	for i, page := range m.Pages {
		all[i] = [128]byte(page)
	}
	return all
}

// value returns a memory with the bytes of a model.
func (all *memory) value() frames.Memory {
	m := frames.Memory{}
	for _, page := range all {
		m.Pages = append(m.Pages, page[:])
	}
	return m
}

// used returns the frames that are not zero.
func (all *memory) used() []int {
	var list []int
	for i, page := range all {
		if page != [128]byte{} {
			list = append(list, i)
		}
	}
	return list
}

// randomMemory returns a memory in which some frames are not zero.
func randomMemory(x *rand.Rand) frames.Memory {
	var all memory
	for range x.Intn(30) {
		x.Read(all[x.Intn(96)][x.Intn(128):])
	}
	return all.value()
}

// randomRange returns a range within a page, and bytes for it.
func randomRange(x *rand.Rand) (from int, b []byte) {
	from = x.Intn(129)
	b = make([]byte, x.Intn(129-from))
	x.Read(b)
	return from, b
}

// change calls one function that changes memories, and does the same to the model.
func change(t *testing.T, x *rand.Rand, m frames.Memory, all *memory) frames.Memory {
	t.Helper()
	frame := x.Intn(96)
	from, b := randomRange(x)
	switch x.Intn(3) {
	case 0:
		next, e := frames.Write(m, frame, from, b)
		copy(all[frame][from:], b)
		return must(t, next, e)
	case 1:
		next, e := frames.Set(m, frame, b)
		all[frame] = [128]byte{}
		copy(all[frame][:], b)
		return must(t, next, e)
	}
	other := x.Intn(96)
	next, e := frames.Copy(m, frame, other)
	all[frame] = all[other]
	return must(t, next, e)
}

func TestP8_2LongRuns(t *testing.T) {
	x := rand.New(rand.NewSource(1))
	for range 20 {
		var all memory
		m := frames.New()
		for range 300 {
			m = change(t, x, m, &all)
			if of(t, m) != all || !slices.Equal(frames.Used(m), all.used()) || !frames.Equal(m, all.value()) {
				t.Fatal("the memory differs from its model")
			}
			frame := x.Intn(96)
			from, b := randomRange(x)
			got, e := frames.Read(m, frame, from, len(b))
			if e != api.OK || !bytes.Equal(got, all[frame][from:from+len(b)]) {
				t.Fatalf("frame %d, %d bytes from %d on: %v, error %d", frame, len(b), from, got, e)
			}
		}
	}
}

func TestP8_2WhatWasWrittenIsRead(t *testing.T) {
	x := rand.New(rand.NewSource(2))
	for range 2000 {
		before := randomMemory(x)
		frame := x.Intn(96)
		from, b := randomRange(x)
		m, e := frames.Write(before, frame, from, b)
		got, f := frames.Read(must(t, m, e), frame, from, len(b))
		if f != api.OK || !bytes.Equal(got, b) {
			t.Fatalf("frame %d, from %d on: wrote %v, read %v, error %d", frame, from, b, got, f)
		}
		want, all := of(t, before), of(t, m)
		clear(want[frame][from : from+len(b)])
		clear(all[frame][from : from+len(b)])
		if all != want {
			t.Fatalf("frame %d, %d bytes from %d on: other bytes changed", frame, len(b), from)
		}
	}
}

func TestP8_2PagesThatShareTheirBytes(t *testing.T) {
	page := bytes.Repeat([]byte{7}, 128)
	shared := frames.Memory{Pages: slices.Repeat([][]byte{page}, 96)}
	var all memory
	for i := range all {
		all[i] = [128]byte(page)
	}
	m, e := frames.Write(shared, 4, 1, []byte{1, 2})
	all[4][1], all[4][2] = 1, 2
	if of(t, must(t, m, e)) != all {
		t.Error("a write changed other frames")
	}
	m, e = frames.Set(m, 9, []byte{5})
	all[9] = [128]byte{5}
	if of(t, must(t, m, e)) != all {
		t.Error("setting a frame changed other ones")
	}
	if !bytes.Equal(page, bytes.Repeat([]byte{7}, 128)) {
		t.Error("the argument changed")
	}
}

func TestP8_3WritesWithoutACommonByteCanBeExchanged(t *testing.T) {
	x := rand.New(rand.NewSource(3))
	for range 1000 {
		m := randomMemory(x)
		a, b := x.Intn(96), x.Intn(96)
		from, p := randomRange(x)
		to, q := randomRange(x)
		if x.Intn(2) == 0 {
			// The second range begins where the first one ends.
			b, to = a, from+len(p)
			q = q[:min(len(q), 128-to)]
		} else if a == b {
			continue
		}
		m1, e := frames.Write(m, a, from, p)
		m1, e = frames.Write(must(t, m1, e), b, to, q)
		m2, f := frames.Write(m, b, to, q)
		m2, f = frames.Write(must(t, m2, f), a, from, p)
		if !frames.Equal(must(t, m1, e), must(t, m2, f)) {
			t.Fatalf("frame %d from %d on %v, frame %d from %d on %v", a, from, p, b, to, q)
		}
	}
}

func TestP8_3TheSecondWriteCounts(t *testing.T) {
	x := rand.New(rand.NewSource(4))
	for range 1000 {
		m := randomMemory(x)
		frame := x.Intn(96)
		from, b := randomRange(x)
		other := make([]byte, len(b))
		x.Read(other)
		both, e := frames.Write(m, frame, from, other)
		both, e = frames.Write(must(t, both, e), frame, from, b)
		second, f := frames.Write(m, frame, from, b)
		if !frames.Equal(must(t, both, e), must(t, second, f)) {
			t.Fatalf("frame %d, from %d on: %v, then %v", frame, from, other, b)
		}
	}
}

func TestP8_4CopiesStayAsTheyAre(t *testing.T) {
	x := rand.New(rand.NewSource(5))
	for range 1000 {
		m := randomMemory(x)
		to, from := x.Intn(96), x.Intn(96)
		if to == from {
			continue
		}
		want, e := frames.Read(m, from, 0, 128)
		if e != api.OK {
			t.Fatal(e)
		}
		m, e = frames.Copy(m, to, from)
		all := of(t, must(t, m, e))
		if all[to] != all[from] || !bytes.Equal(all[to][:], want) {
			t.Fatalf("frames %d and %d differ", to, from)
		}
		at, b := randomRange(x)
		m, e = frames.Write(m, from, at, b)
		if got := of(t, must(t, m, e))[to]; !bytes.Equal(got[:], want) {
			t.Fatalf("frame %d changed with frame %d", to, from)
		}
		m, e = frames.Set(m, from, b)
		if got := of(t, must(t, m, e))[to]; !bytes.Equal(got[:], want) {
			t.Fatalf("frame %d changed with frame %d", to, from)
		}
	}
}

func TestP8_4SettingWhatIsReadChangesNothing(t *testing.T) {
	x := rand.New(rand.NewSource(6))
	for range 1000 {
		m := randomMemory(x)
		frame := x.Intn(96)
		b, e := frames.Read(m, frame, 0, 128)
		if e != api.OK {
			t.Fatal(e)
		}
		same, e := frames.Set(m, frame, b)
		if !frames.Equal(must(t, same, e), m) {
			t.Fatalf("frame %d: the memory changed", frame)
		}
	}
}

// results calls all functions that return bytes or memories.
func results(t *testing.T, m frames.Memory, b []byte) (memories []frames.Memory, read []byte) {
	t.Helper()
	read, e := frames.Read(m, 3, 0, 128)
	if e != api.OK {
		t.Fatal(e)
	}
	keep := func(m frames.Memory, e api.Errno) { memories = append(memories, must(t, m, e)) }
	keep(frames.New(), api.OK)
	keep(frames.Write(m, 3, 5, b))
	keep(frames.Write(m, 3, 5, nil))
	keep(frames.Set(m, 3, b))
	keep(frames.Set(m, 3, m.Pages[3]))
	keep(frames.Copy(m, 4, 3))
	keep(frames.Copy(m, 3, 3))
	return memories, read
}

// spoil changes all that a memory has, also behind its pages, and takes its pages away.
func spoil(m frames.Memory) {
	pages := m.Pages[:cap(m.Pages)]
	for i, page := range pages {
		page = page[:cap(page)]
		for j := range page {
			page[j] = 0xaa
		}
		pages[i] = nil
	}
}

func TestP8_5ChangedResults(t *testing.T) {
	m, b := randomMemory(rand.New(rand.NewSource(7))), []byte{1, 2, 3}
	want := of(t, m)
	for i := range 7 {
		memories, read := results(t, m, b)
		rest, _ := results(t, m, b)
		spoil(memories[i])
		for j := range memories {
			if j != i && !frames.Equal(memories[j], rest[j]) {
				t.Errorf("result %d changed with result %d", j, i)
			}
		}
		if page := want[3]; !bytes.Equal(read, page[:]) {
			t.Errorf("the bytes that were read changed with result %d", i)
		}
		clear(read[:cap(read)])
		if of(t, m) != want || !bytes.Equal(b, []byte{1, 2, 3}) {
			t.Fatalf("arguments changed with result %d", i)
		}
	}
}

func TestP8_5ChangedArguments(t *testing.T) {
	m, b := randomMemory(rand.New(rand.NewSource(8))), []byte{1, 2, 3}
	memories, read := results(t, m, b)
	var all []memory
	for _, m := range memories {
		all = append(all, of(t, m))
	}
	page := of(t, m)[3]
	clear(b)
	spoil(m)
	for i, m := range memories {
		if of(t, m) != all[i] {
			t.Errorf("result %d changed with an argument", i)
		}
	}
	if !bytes.Equal(read, page[:]) {
		t.Error("the bytes that were read changed with an argument")
	}
}

func TestP8_5PagesOfAResultAreIndependent(t *testing.T) {
	memories, _ := results(t, randomMemory(rand.New(rand.NewSource(9))), []byte{1, 2, 3})
	for i, m := range memories {
		all := of(t, m)
		for frame, page := range m.Pages {
			_ = append(page, 1, 2, 3)
			copy(page, bytes.Repeat([]byte{byte(frame)}, 128))
			all[frame] = [128]byte(bytes.Repeat([]byte{byte(frame)}, 128))
			if of(t, m) != all {
				t.Fatalf("result %d: another frame changed with frame %d", i, frame)
			}
		}
	}
}

func TestP8_5UsedIsIndependent(t *testing.T) {
	m := written(t, 5, 0, 1)
	used := frames.Used(m)
	clear(used[:cap(used)])
	if again := frames.Used(m); !slices.Equal(again, []int{5}) {
		t.Errorf("frames %v are used", again)
	}
}

func TestP8_5OthersOnlyLook(t *testing.T) {
	m, other := randomMemory(rand.New(rand.NewSource(10))), written(t, 1, 0, 5)
	want := of(t, m)
	frames.Valid(m)
	frames.Equal(m, other)
	frames.Equal(other, m)
	frames.Used(m)
	frames.Write(m, 96, 0, []byte{1})
	frames.Write(m, 0, 128, []byte{1})
	frames.Set(m, 3, make([]byte, 129))
	frames.Copy(m, 3, 96)
	frames.Copy(m, 96, 3)
	if of(t, m) != want {
		t.Error("a memory changed")
	}
}

func TestP3EqualCallsHaveEqualResults(t *testing.T) {
	x := rand.New(rand.NewSource(11))
	for range 50 {
		m := randomMemory(x)
		copied := of(t, m)
		memories, read := results(t, m, []byte{1, 2, 3})
		results(t, randomMemory(x), []byte{4})
		frames.Write(m, -1, 0, nil)
		again, readAgain := results(t, copied.value(), []byte{1, 2, 3})
		if !slices.EqualFunc(memories, again, frames.Equal) || !bytes.Equal(read, readAgain) {
			t.Fatal("different results")
		}
	}
}

func FuzzP8_2Write(f *testing.F) {
	f.Add(5, 126, []byte{1, 2})
	f.Add(5, 128, []byte{3})
	f.Add(95, 128, []byte{})
	f.Add(96, 0, []byte{1})
	f.Add(-1, -1, bytes.Repeat([]byte{1}, 129))
	f.Fuzz(func(t *testing.T, frame, from int, b []byte) {
		before := frames.New()
		before.Pages[95][127], before.Pages[0][0] = 1, 2
		m, e := frames.Write(before, frame, from, b)
		fits := frame >= 0 && frame < 96 && from >= 0 && from <= 128 && len(b) <= 128-from
		if !fits {
			refused(t, "write", m, e, api.ErrRange)
			return
		}
		got, e := frames.Read(must(t, m, e), frame, from, len(b))
		if e != api.OK || !bytes.Equal(got, b) {
			t.Errorf("read %v, error %d", got, e)
		}
		all := of(t, before)
		copy(all[frame][from:], b)
		if of(t, m) != all {
			t.Error("other bytes changed")
		}
	})
}
