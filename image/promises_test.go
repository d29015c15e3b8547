package image_test

import (
	"bytes"
	"math/rand"
	"slices"
	"testing"

	"ratoon/api"
	"ratoon/image"
)

// lengths are numbers of bytes at the ends of pages, and in between.
func lengths() []int {
	return []int{0, 1, 44, 127, 128, 129, 200, 255, 256, 257, 300, 383, 384, 385, 1000, 23999, api.MaxImage}
}

func randomImage(x *rand.Rand) []byte {
	n := lengths()[x.Intn(len(lengths()))]
	if x.Intn(2) == 0 {
		n = x.Intn(600)
	}
	b := make([]byte, n)
	if x.Intn(2) == 0 {
		x.Read(b)
	}
	return b
}

// randomChange returns an image that has much in common with the given one.
func randomChange(x *rand.Rand, a []byte) []byte {
	b := slices.Clone(a)
	switch x.Intn(5) {
	case 0:
		b = b[:x.Intn(len(b)+1)]
	case 1:
		b = b[:x.Intn(len(b)/size+1)*size]
	case 2:
		b = append(b, make([]byte, x.Intn(300))...)
	case 3:
		return randomImage(x)
	}
	for range x.Intn(4) {
		if len(b) > 0 {
			b[x.Intn(len(b))] ^= byte(x.Intn(3))
		}
	}
	return b[:min(len(b), api.MaxImage)]
}

// pairs calls a function with pairs of images.
func pairs(seed int64, check func(a, b []byte)) {
	zeros, counts := make([]byte, api.MaxImage), counted(api.MaxImage)
	for _, n := range lengths() {
		for _, m := range lengths() {
			check(counts[:n], counts[:m])
			check(counts[:n], zeros[:m])
			check(zeros[:n], zeros[:m])
		}
	}
	x := rand.New(rand.NewSource(seed))
	for range 2000 {
		a := randomImage(x)
		check(a, randomChange(x, a))
	}
}

// isValid is the definition of valid patches, sentence by sentence.
func isValid(p image.Patch, n int) bool {
	if n < 0 || p.Len < 0 || p.Len > api.MaxImage {
		return false
	}
	of := func(n, k int) int { return max(0, min(n-k*size, size)) }
	last, among := -1, map[int]bool{}
	for _, c := range p.Changes {
		if c.Page <= last || c.Page >= image.Count(p.Len) || len(c.Data) != of(p.Len, c.Page) {
			return false
		}
		last, among[c.Page] = c.Page, true
	}
	for k := range image.Count(p.Len) {
		if !among[k] && of(n, k) != of(p.Len, k) {
			return false
		}
	}
	return true
}

// applied computes the pages of an image with a patch one by one.
func applied(a []byte, p image.Patch) []byte {
	var b []byte
	for k := range image.Count(p.Len) {
		page := image.Page(a, k)
		for _, c := range p.Changes {
			if c.Page == k {
				page = c.Data
			}
		}
		b = append(b, page...)
	}
	return b
}

// damaged returns a patch that is perhaps not valid any more.
func damaged(x *rand.Rand, p image.Patch) image.Patch {
	p = copyOf(p)
	if x.Intn(4) == 0 {
		p.Len += x.Intn(3) - 1
	}
	if len(p.Changes) == 0 || x.Intn(4) == 0 {
		k := x.Intn(7) - 1
		return image.Patch{Len: p.Len, Changes: append(p.Changes, image.Change{Page: k, Data: make([]byte, size)})}
	}
	i, j := x.Intn(len(p.Changes)), x.Intn(len(p.Changes))
	switch x.Intn(5) {
	case 0:
		p.Changes = slices.Delete(p.Changes, i, i+1)
	case 1:
		p.Changes[i], p.Changes[j] = p.Changes[j], p.Changes[i]
	case 2:
		p.Changes[i].Page += x.Intn(3) - 1
	case 3:
		p.Changes[i].Data = append(p.Changes[i].Data, 0)
	case 4:
		p.Changes[i].Data = p.Changes[i].Data[1:]
	}
	return p
}

func TestP3_1ValidIsTheDefinition(t *testing.T) {
	x := rand.New(rand.NewSource(1))
	seen := map[bool]int{}
	for range 5000 {
		a := randomImage(x)
		p := diff(t, a, randomChange(x, a))
		for range x.Intn(3) {
			p = damaged(x, p)
		}
		n := len(a)
		if x.Intn(4) == 0 {
			n += x.Intn(5) - 2
		}
		want := isValid(p, n)
		seen[want]++
		if image.Valid(p, n) != want {
			t.Fatalf("%d bytes, length %d, %+v: not %t", n, p.Len, p, want)
		}
	}
	if seen[true] < 500 || seen[false] < 500 {
		t.Error("too few patches of one kind:", seen)
	}
}

func TestP3_3ApplyIsTheDefinition(t *testing.T) {
	x := rand.New(rand.NewSource(2))
	for range 3000 {
		a := randomImage(x)
		p := diff(t, a, randomChange(x, a))
		for range x.Intn(2) {
			p = damaged(x, p)
		}
		got, e := image.Apply(a, p)
		if image.Valid(p, len(a)) {
			if e != api.OK || !bytes.Equal(got, applied(a, p)) {
				t.Fatalf("%d bytes, %+v: %v %d", len(a), p, got, e)
			}
		} else if e != api.ErrArg || len(got) != 0 {
			t.Fatalf("%d bytes, %+v: %v %d", len(a), p, got, e)
		}
	}
}

// isPageBeginning reports whether b is a beginning of a that ends at the end of
// a page, or a itself.
func isPageBeginning(a, b []byte) bool {
	return bytes.HasPrefix(a, b) && (len(b)%size == 0 || len(b) == len(a))
}

func TestP3_4Difference(t *testing.T) {
	pairs(4, func(a, b []byte) {
		p := diff(t, a, b)
		if p.Len != len(b) || !image.Valid(p, len(a)) || !bytes.Equal(apply(t, a, p), b) {
			t.Fatalf("from %d to %d bytes: %+v", len(a), len(b), p)
		}
		if (len(p.Changes) == 0) != isPageBeginning(a, b) {
			t.Fatalf("from %d to %d bytes: %d changes", len(a), len(b), len(p.Changes))
		}
	})
}

func TestP3_4DifferenceFromLongerImages(t *testing.T) {
	a := counted(3 * api.MaxImage)
	for _, n := range lengths() {
		p := diff(t, a, a[:n])
		if !bytes.Equal(apply(t, a, p), a[:n]) || (len(p.Changes) == 0) != (n%size == 0) {
			t.Errorf("%d bytes: %+v", n, p)
		}
	}
}

func TestP3_5Least(t *testing.T) {
	pairs(5, func(a, b []byte) {
		p := diff(t, a, b)
		for i := range p.Changes {
			less := copyOf(p)
			less.Changes = slices.Delete(less.Changes, i, i+1)
			got, e := image.Apply(a, less)
			if e == api.OK && bytes.Equal(got, b) {
				t.Fatalf("from %d to %d bytes: change %d of %+v is not needed", len(a), len(b), i, p)
			}
		}
	})
}

func TestP3_6Joint(t *testing.T) {
	x := rand.New(rand.NewSource(6))
	for range 3000 {
		a := randomImage(x)
		b := randomChange(x, a)
		c := randomChange(x, b)
		p, q := diff(t, a, b), diff(t, b, c)
		joint, e := image.Join(p, q, len(a))
		if e != api.OK || joint.Len != len(c) || !image.Valid(joint, len(a)) {
			t.Fatalf("%d, %d and %d bytes: %+v %d", len(a), len(b), len(c), joint, e)
		}
		// The patches have this effect for all images of this length.
		for _, other := range [][]byte{a, make([]byte, len(a)), counted(len(a))} {
			if !bytes.Equal(apply(t, other, joint), apply(t, apply(t, other, p), q)) {
				t.Fatalf("%d, %d and %d bytes: %+v", len(a), len(b), len(c), joint)
			}
		}
	}
}

func TestP3_6JoinIsTheDefinition(t *testing.T) {
	x := rand.New(rand.NewSource(7))
	for range 3000 {
		a := randomImage(x)
		b := randomChange(x, a)
		p, q := diff(t, a, b), diff(t, b, randomChange(x, b))
		if x.Intn(3) == 0 {
			p = damaged(x, p)
		}
		if x.Intn(3) == 0 {
			q = damaged(x, q)
		}
		got, e := image.Join(p, q, len(a))
		if !isValid(p, len(a)) || !isValid(q, p.Len) {
			if e != api.ErrArg || got.Len != 0 || len(got.Changes) != 0 {
				t.Fatalf("%+v and %+v: %+v %d", p, q, got, e)
			}
			continue
		}
		if want := joined(p, q); e != api.OK || !image.Equal(got, want) {
			t.Fatalf("%+v and %+v: %+v %d", p, q, got, e)
		}
	}
}

// joined computes the joint patch of valid patches page by page.
func joined(p, q image.Patch) image.Patch {
	joint := image.Patch{Len: q.Len}
	for k := range image.Count(q.Len) {
		of := func(c image.Change) bool { return c.Page == k }
		if i := slices.IndexFunc(q.Changes, of); i >= 0 {
			joint.Changes = append(joint.Changes, q.Changes[i])
		} else if i := slices.IndexFunc(p.Changes, of); i >= 0 {
			joint.Changes = append(joint.Changes, p.Changes[i])
		}
	}
	return joint
}

func TestP3_7Local(t *testing.T) {
	for _, n := range lengths() {
		a := counted(n)
		step := max(1, n/500)
		for at := 0; at < n; at += step {
			checkLocal(t, a, at)
		}
		for at := n - 1; at >= max(0, n-3); at-- {
			checkLocal(t, a, at)
		}
	}
}

func checkLocal(t *testing.T, a []byte, at int) {
	t.Helper()
	for change := 1; change < 256; change <<= 1 {
		b := slices.Clone(a)
		b[at] ^= byte(change)
		for _, p := range []image.Patch{diff(t, a, b), diff(t, b, a)} {
			if p.Len != len(a) || len(p.Changes) != 1 || p.Changes[0].Page != at/size {
				t.Fatalf("byte %d of %d: %+v", at, len(a), p)
			}
		}
	}
}

func TestExamples(t *testing.T) {
	a := counted(300)
	if image.Count(300) != 3 {
		t.Error(image.Count(300))
	}
	for k, n := range []int{128, 128, 44} {
		if got := len(image.Page(a, k)); got != n {
			t.Errorf("page %d has %d bytes", k, got)
		}
	}
	if p := diff(t, a, changed(a, 200)); len(p.Changes) != 1 || p.Changes[0].Page != 1 {
		t.Errorf("%+v", p)
	}
	if p := diff(t, a, a[:256]); len(p.Changes) != 0 || p.Len != 256 {
		t.Errorf("%+v", p)
	}
}

func FuzzP3_4Difference(f *testing.F) {
	f.Add([]byte("ab"), []byte("abc"))
	f.Add(counted(300), counted(256))
	f.Add(counted(300), counted(301))
	f.Fuzz(func(t *testing.T, a, b []byte) {
		p, e := image.Diff(a, b)
		if len(b) > api.MaxImage {
			if e != api.ErrLimit {
				t.Errorf("%d bytes: %d", len(b), e)
			}
			return
		}
		if e != api.OK || !isValid(p, len(a)) || !bytes.Equal(apply(t, a, p), b) {
			t.Errorf("from %v to %v: %+v %d", a, b, p, e)
		}
	})
}
