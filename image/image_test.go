package image_test

import (
	"bytes"
	"math"
	"math/rand"
	"slices"
	"testing"

	"ratoon/api"
	"ratoon/image"
)

const size = api.PageSize

// counted returns an image whose pages are all different.
func counted(n int) []byte {
	b := make([]byte, n)
	for i := range b {
		b[i] = byte(i + i/size)
	}
	return b
}

// filled returns the Data of a page with n bytes.
func filled(n int) []byte { return bytes.Repeat([]byte{'x'}, n) }

// patch returns a patch whose changes have the given pages and numbers of bytes.
func patch(n int, changes ...[2]int) image.Patch {
	p := image.Patch{Len: n}
	for _, c := range changes {
		p.Changes = append(p.Changes, image.Change{Page: c[0], Data: filled(c[1])})
	}
	return p
}

// copyOf returns a patch that shares no memory with the given one.
func copyOf(p image.Patch) image.Patch {
	c := image.Patch{Len: p.Len}
	for _, change := range p.Changes {
		c.Changes = append(c.Changes, image.Change{Page: change.Page, Data: slices.Clone(change.Data)})
	}
	return c
}

// changed returns the image with the byte at a place replaced by another one.
func changed(b []byte, at int) []byte {
	c := slices.Clone(b)
	c[at]++
	return c
}

// diff returns the patch from a to b.
func diff(t *testing.T, a, b []byte) image.Patch {
	t.Helper()
	p, e := image.Diff(a, b)
	if e != api.OK {
		t.Fatalf("from %d to %d bytes: error %d", len(a), len(b), e)
	}
	return p
}

// apply expects that a patch can be applied, and returns the image.
func apply(t *testing.T, a []byte, p image.Patch) []byte {
	t.Helper()
	b, e := image.Apply(a, p)
	if e != api.OK {
		t.Fatalf("%+v to %d bytes: error %d", p, len(a), e)
	}
	return b
}

func TestP3_1Count(t *testing.T) {
	for _, c := range [][2]int{
		{0, 0}, {1, 1}, {127, 1}, {128, 1}, {129, 2}, {256, 2}, {257, 3}, {300, 3},
		{api.MaxImage, 188}, {-1, 0}, {-128, 0}, {-129, 0}, {math.MinInt, 0},
		{math.MaxInt, 1 << 56}, {math.MaxInt - 126, 1 << 56}, {math.MaxInt - 127, 1<<56 - 1},
	} {
		if got := image.Count(c[0]); got != c[1] {
			t.Errorf("%d bytes: %d pages instead of %d", c[0], got, c[1])
		}
	}
}

func TestP3_1Page(t *testing.T) {
	b := counted(300)
	for _, c := range []struct {
		n, k int
		want []byte
	}{
		{300, 0, b[:128]}, {300, 1, b[128:256]}, {300, 2, b[256:]}, {300, 3, nil}, {300, 4, nil},
		{300, -1, nil}, {300, math.MinInt, nil}, {300, math.MaxInt, nil},
		// k * PageSize does not fit an integer.
		{300, 1 << 57, nil}, {300, 1<<57 + 1, nil}, {300, -1 << 57, nil}, {300, 1 << 56, nil},
		{0, 0, nil}, {0, 1, nil}, {0, -1, nil},
		{1, 0, b[:1]}, {1, 1, nil}, {127, 0, b[:127]}, {127, 1, nil},
		{128, 0, b[:128]}, {128, 1, nil}, {129, 1, b[128:129]}, {129, 2, nil},
		{256, 1, b[128:256]}, {256, 2, nil},
	} {
		// The bytes behind the image are not part of it.
		if got := image.Page(b[:c.n], c.k); !bytes.Equal(got, c.want) {
			t.Errorf("page %d of %d bytes: %v instead of %v", c.k, c.n, got, c.want)
		}
	}
	if got := image.Page(nil, 0); len(got) != 0 {
		t.Error(got)
	}
}

func TestP3_1PagesOfLongImages(t *testing.T) {
	b := counted(api.MaxImage + 5*size + 1)
	var joined []byte
	for k := range image.Count(len(b)) {
		joined = append(joined, image.Page(b, k)...)
	}
	if !bytes.Equal(joined, b) {
		t.Error("the pages are not the image")
	}
}

func TestP3_1PageIsIndependent(t *testing.T) {
	b := counted(300)
	for k := range 3 {
		got := image.Page(b, k)
		got = got[:cap(got)]
		for i := range got {
			got[i] = 99
		}
		if !bytes.Equal(b, counted(300)) {
			t.Fatalf("page %d shares memory with the image", k)
		}
	}
}

func TestP3_1ValidPatches(t *testing.T) {
	for _, c := range []struct {
		p image.Patch
		n int
	}{
		{patch(0), 0},
		{image.Patch{Changes: []image.Change{}}, 0},
		{patch(0), 300},
		{patch(0), math.MaxInt},
		{patch(300), 300},
		{patch(300, [2]int{1, 128}), 300},
		{patch(300, [2]int{2, 44}), 300},
		{patch(300, [2]int{0, 128}, [2]int{2, 44}), 300},
		{patch(300, [2]int{0, 128}, [2]int{1, 128}, [2]int{2, 44}), 300},
		{patch(300, [2]int{0, 128}, [2]int{1, 128}, [2]int{2, 44}), 0},
		{patch(300, [2]int{2, 44}), 299},
		{patch(300, [2]int{2, 44}), 301},
		{patch(300, [2]int{2, 44}), 256},
		{patch(300, [2]int{2, 44}), math.MaxInt},
		{patch(300, [2]int{1, 128}, [2]int{2, 44}), 255},
		{patch(300, [2]int{1, 128}, [2]int{2, 44}), 128},
		{patch(256), 256},
		{patch(256), 257},
		{patch(256), 384},
		{patch(256), math.MaxInt},
		{patch(256, [2]int{1, 128}), 255},
		{patch(256, [2]int{0, 128}), 300},
		{patch(1, [2]int{0, 1}), 0},
		{patch(1, [2]int{0, 1}), 2},
		{patch(api.MaxImage), api.MaxImage},
		{patch(api.MaxImage, [2]int{187, 64}), api.MaxImage + 1},
	} {
		if !image.Valid(c.p, c.n) {
			t.Errorf("%+v is not valid for %d bytes", c.p, c.n)
		}
	}
}

func TestP3_1PatchesThatAreNotValid(t *testing.T) {
	all := [][2]int{{0, 128}, {1, 128}, {2, 44}}
	for name, c := range map[string]struct {
		p image.Patch
		n int
	}{
		"no images":                         {patch(0), -1},
		"no images, least":                  {patch(0), math.MinInt},
		"no images, all changes":            {patch(300, all...), -300},
		"negative length":                   {patch(-1), 0},
		"negative length of the image":      {patch(-1), -1},
		"least length":                      {patch(math.MinInt), 300},
		"too long":                          {patch(api.MaxImage+1, [2]int{187, 65}), api.MaxImage},
		"too long, nothing missing":         {patch(api.MaxImage + 1), api.MaxImage + 1},
		"much too long":                     {patch(math.MaxInt), math.MaxInt},
		"doubled page":                      {patch(300, [2]int{1, 128}, [2]int{1, 128}), 300},
		"doubled last page":                 {patch(300, [2]int{2, 44}, [2]int{2, 44}), 300},
		"decreasing pages":                  {patch(300, [2]int{1, 128}, [2]int{0, 128}), 300},
		"decreasing behind all":             {patch(300, append(slices.Clone(all), [2]int{1, 128})...), 0},
		"negative page":                     {patch(300, [2]int{-1, 128}), 300},
		"negative page without bytes":       {patch(300, [2]int{-1, 0}), 300},
		"negative page, then another":       {patch(300, [2]int{-1, 0}, [2]int{1, 128}), 300},
		"page behind the end":               {patch(300, [2]int{3, 128}), 300},
		"page behind the end without bytes": {patch(300, [2]int{3, 0}), 300},
		"page behind the end of whole ones": {patch(256, [2]int{2, 0}), 256},
		"page of the old image only":        {patch(128, [2]int{1, 128}), 256},
		"page of no bytes":                  {patch(0, [2]int{0, 0}), 0},
		"page of an empty image":            {patch(0, [2]int{0, 128}), 128},
		"huge page":                         {patch(300, [2]int{1 << 57, 128}), 300},
		"greatest page":                     {patch(300, [2]int{math.MaxInt, 128}), 300},
		"page without Data":                 {patch(300, [2]int{1, 0}), 300},
		"too few bytes":                     {patch(300, [2]int{1, 127}), 300},
		"too many bytes":                    {patch(300, [2]int{1, 129}), 300},
		"two pages at once":                 {patch(300, [2]int{0, 256}), 300},
		"too few bytes at the end":          {patch(300, [2]int{2, 43}), 300},
		"too many bytes at the end":         {patch(300, [2]int{2, 45}), 300},
		"whole page at the end":             {patch(300, [2]int{2, 128}), 300},
		"last page as in the old image":     {patch(300, [2]int{2, 43}), 299},
		"missing shorter page":              {patch(300), 299},
		"missing longer page":               {patch(300), 301},
		"missing longest page":              {patch(300), math.MaxInt},
		"missing page":                      {patch(300), 256},
		"missing page, others changed":      {patch(300, [2]int{0, 128}, [2]int{1, 128}), 300 + size},
		"missing one of two pages":          {patch(300, [2]int{2, 44}), 128},
		"missing other of two pages":        {patch(300, [2]int{1, 128}), 128},
		"missing all pages":                 {patch(300), 0},
		"missing first page":                {patch(300, all[1:]...), 0},
		"missing the only page":             {patch(1), 0},
		"missing a part of the only page":   {patch(127), 128},
	} {
		if image.Valid(c.p, c.n) {
			t.Errorf("%s: %+v is valid for %d bytes", name, c.p, c.n)
		}
	}
}

func TestP3_1Equal(t *testing.T) {
	ab := []byte("ab")
	l := []image.Patch{
		{},
		{Len: 1},
		{Len: -1},
		{Changes: []image.Change{{}}},
		{Changes: []image.Change{{}, {}}},
		{Changes: []image.Change{{Page: 1}}},
		{Changes: []image.Change{{Data: ab}}},
		{Changes: []image.Change{{Data: ab[:1]}}},
		{Changes: []image.Change{{Data: ab[1:]}}},
		{Changes: []image.Change{{Page: 1, Data: ab}}},
		{Len: 2, Changes: []image.Change{{Page: 1, Data: ab}}},
		{Changes: []image.Change{{Page: 1, Data: ab}, {Page: 2, Data: ab}}},
		{Changes: []image.Change{{Page: 1, Data: ab}, {Page: 2, Data: ab[1:]}}},
		{Changes: []image.Change{{Page: 2, Data: ab}, {Page: 1, Data: ab}}},
		{Changes: []image.Change{{Page: -1, Data: filled(1000)}}},
	}
	for i, p := range l {
		for j, q := range l {
			if got := image.Equal(p, copyOf(q)); got != (i == j) {
				t.Errorf("%+v and %+v: %t", p, q, got)
			}
		}
	}
}

func TestP3_1NilAndEmptyAreEqual(t *testing.T) {
	none := image.Patch{Len: 3, Changes: []image.Change{{Page: 4}}}
	empty := image.Patch{Len: 3, Changes: []image.Change{{Page: 4, Data: []byte{}}}}
	if !image.Equal(none, empty) || !image.Equal(empty, none) {
		t.Error("nil and empty Data differ")
	}
	none, empty = image.Patch{Len: 3}, image.Patch{Len: 3, Changes: []image.Change{}}
	if !image.Equal(none, empty) || !image.Equal(empty, none) {
		t.Error("nil and empty changes differ")
	}
}

func TestP3_2Diff(t *testing.T) {
	a := counted(300)
	for name, c := range map[string]struct {
		a, b  []byte
		pages []int
	}{
		"nothing":                     {nil, nil, nil},
		"empty images":                {[]byte{}, []byte{}, nil},
		"equal images":                {a, counted(300), nil},
		"first byte":                  {a, changed(a, 0), []int{0}},
		"last byte of a page":         {a, changed(a, 127), []int{0}},
		"first byte of a page":        {a, changed(a, 128), []int{1}},
		"byte 200":                    {a, changed(a, 200), []int{1}},
		"last byte":                   {a, changed(a, 299), []int{2}},
		"two pages":                   {a, changed(changed(a, 5), 270), []int{0, 2}},
		"two bytes of a page":         {a, changed(changed(a, 5), 127), []int{0}},
		"beginning of two pages":      {a, a[:256], nil},
		"beginning of a page":         {a, a[:128], nil},
		"empty beginning":             {a, nil, nil},
		"without the last byte":       {a, a[:299], []int{2}},
		"without a byte of two pages": {a, a[:255], []int{1}},
		"a byte of the last page":     {a, a[:257], []int{2}},
		"one byte":                    {a, a[:1], []int{0}},
		"one byte more":               {a[:299], a, []int{2}},
		"a page more":                 {a[:256], a, []int{2}},
		"one byte, and a page more":   {a[:255], a, []int{1, 2}},
		"all pages more":              {nil, a, []int{0, 1, 2}},
		"zeros more":                  {nil, make([]byte, 129), []int{0, 1}},
		"a zero more":                 {a[:256], append(counted(256), 0), []int{2}},
		"an end without the page":     {a, a[128:256], []int{0}},
	} {
		p := diff(t, c.a, c.b)
		want := image.Patch{Len: len(c.b)}
		for _, k := range c.pages {
			data := c.b[k*size : min(k*size+size, len(c.b))]
			want.Changes = append(want.Changes, image.Change{Page: k, Data: data})
		}
		if !image.Equal(p, want) {
			t.Errorf("%s: %+v instead of %+v", name, p, want)
		}
	}
}

func TestP3_2Limit(t *testing.T) {
	most := make([]byte, api.MaxImage)
	more := make([]byte, api.MaxImage+1)
	for _, a := range [][]byte{nil, {0}, most, more, make([]byte, 2*api.MaxImage)} {
		p := diff(t, a, most)
		if p.Len != api.MaxImage || !bytes.Equal(apply(t, a, p), most) {
			t.Errorf("from %d bytes: %+v", len(a), p)
		}
		for _, b := range [][]byte{more, make([]byte, 1<<20)} {
			if p, e := image.Diff(a, b); e != api.ErrLimit || p.Len != 0 || len(p.Changes) != 0 {
				t.Errorf("from %d to %d bytes: %+v %d", len(a), len(b), p, e)
			}
		}
	}
	// The first image may be longer.
	if p := diff(t, more, more[:128]); p.Len != 128 || len(p.Changes) != 0 {
		t.Errorf("%+v", p)
	}
}

func TestP3_2DiffIsIndependent(t *testing.T) {
	a, b := counted(300), make([]byte, 400)
	p := diff(t, a, b)
	want := copyOf(p)
	clear(a)
	for i := range b {
		b[i] = 7
	}
	if !image.Equal(p, want) {
		t.Fatal("the patch shares memory with an image")
	}
	scribble(t, p)
	if !bytes.Equal(a, make([]byte, 300)) || !bytes.Equal(b, bytes.Repeat([]byte{7}, 400)) {
		t.Error("an image shares memory with the patch")
	}
}

// scribble expects that the Data of a patch share no memory with each other,
// and overwrites them, with all that lies behind them in their memory.
func scribble(t *testing.T, p image.Patch) {
	t.Helper()
	for k, c := range p.Changes {
		want := copyOf(p)
		for i := range c.Data[:cap(c.Data)] {
			c.Data[:cap(c.Data)][i] = byte(i*7 + 3)
		}
		want.Changes[k].Data = slices.Clone(c.Data)
		if !image.Equal(p, want) {
			t.Fatalf("the Data of page %d share memory with others", c.Page)
		}
	}
}

func TestP3_3Apply(t *testing.T) {
	a := counted(300)
	x := filled(128)
	for name, c := range map[string]struct {
		a    []byte
		p    image.Patch
		want []byte
	}{
		"nothing":               {nil, patch(0), nil},
		"to nothing":            {a, patch(0), nil},
		"no changes":            {a, patch(300), a},
		"first page":            {a, patch(300, [2]int{0, 128}), slices.Concat(x, a[128:])},
		"middle page":           {a, patch(300, [2]int{1, 128}), slices.Concat(a[:128], x, a[256:])},
		"last page":             {a, patch(300, [2]int{2, 44}), slices.Concat(a[:256], x[:44])},
		"all pages":             {a, patch(300, [2]int{0, 128}, [2]int{1, 128}, [2]int{2, 44}), filled(300)},
		"from nothing":          {nil, patch(300, [2]int{0, 128}, [2]int{1, 128}, [2]int{2, 44}), filled(300)},
		"longer last page":      {a, patch(301, [2]int{2, 45}), slices.Concat(a[:256], x[:45])},
		"shorter last page":     {a, patch(257, [2]int{2, 1}), slices.Concat(a[:256], x[:1])},
		"fewer pages":           {a, patch(256), a[:256]},
		"fewer, one changed":    {a, patch(256, [2]int{0, 128}), slices.Concat(x, a[128:256])},
		"fewer, shorter":        {a, patch(130, [2]int{1, 2}), slices.Concat(a[:128], x[:2])},
		"more pages":            {a[:128], patch(257, [2]int{1, 128}, [2]int{2, 1}), slices.Concat(a[:128], filled(129))},
		"more, none of them 0":  {a[:1], patch(200, [2]int{0, 128}, [2]int{1, 72}), filled(200)},
		"bytes behind the page": {a[:256], patch(384, [2]int{2, 128}), slices.Concat(a[:256], x)},
	} {
		got := apply(t, c.a, c.p)
		if !bytes.Equal(got, c.want) {
			t.Errorf("%s: %v instead of %v", name, got, c.want)
		}
	}
}

func TestP3_3ApplyRefusesPatchesThatAreNotValid(t *testing.T) {
	for _, c := range []struct {
		n int
		p image.Patch
	}{
		{0, patch(-1)},
		{0, patch(math.MinInt)},
		{0, patch(math.MaxInt)},
		{api.MaxImage + 1, patch(api.MaxImage + 1)},
		{0, patch(1)},
		{0, patch(0, [2]int{0, 0})},
		{0, patch(0, [2]int{0, 128})},
		{299, patch(300)},
		{301, patch(300)},
		{300, patch(300, [2]int{1, 128}, [2]int{0, 128})},
		{300, patch(300, [2]int{1, 128}, [2]int{1, 128})},
		{300, patch(300, [2]int{-1, 128})},
		{300, patch(300, [2]int{3, 128})},
		{300, patch(300, [2]int{2, 128})},
		{300, patch(300, [2]int{0, 129})},
		{300, patch(300, [2]int{0, 127})},
		{300, patch(300, [2]int{0, 0})},
	} {
		if b, e := image.Apply(counted(c.n), c.p); len(b) != 0 || e != api.ErrArg {
			t.Errorf("%+v to %d bytes: %v %d", c.p, c.n, b, e)
		}
	}
}

func TestP3_3ApplyIsIndependent(t *testing.T) {
	a := counted(300)
	p := patch(257, [2]int{1, 128}, [2]int{2, 1})
	got := apply(t, a, p)
	got = got[:cap(got)]
	for i := range got {
		got[i] = 99
	}
	if !bytes.Equal(a, counted(300)) || !image.Equal(p, patch(257, [2]int{1, 128}, [2]int{2, 1})) {
		t.Error("the image shares memory with the arguments")
	}
	if got = apply(t, a, patch(300)); &got[0] == &a[0] {
		t.Error("the image is the given one")
	}
}

// named returns a patch of 300 bytes or fewer whose Data have a letter each.
func named(n int, letter byte, pages ...int) image.Patch {
	p := image.Patch{Len: n}
	for _, k := range pages {
		data := bytes.Repeat([]byte{letter}, min(n-k*size, size))
		p.Changes = append(p.Changes, image.Change{Page: k, Data: data})
	}
	return p
}

func TestP3_3Join(t *testing.T) {
	all := image.Patch{Len: 300, Changes: slices.Concat(
		named(300, 'p', 0, 1, 2).Changes[:1], named(300, 'q', 0, 1, 2).Changes[1:2], named(300, 'p', 0, 1, 2).Changes[2:])}
	for name, c := range map[string]struct {
		p, q image.Patch
		n    int
		want image.Patch
	}{
		"nothing":                 {named(0, 'p'), named(0, 'q'), 0, named(0, 'j')},
		"no changes":              {named(300, 'p'), named(300, 'q'), 300, named(300, 'j')},
		"p only":                  {named(300, 'p', 0, 2), named(300, 'q'), 300, named(300, 'p', 0, 2)},
		"q only":                  {named(300, 'p'), named(300, 'q', 0, 2), 300, named(300, 'q', 0, 2)},
		"the same pages":          {named(300, 'p', 0, 2), named(300, 'q', 0, 2), 300, named(300, 'q', 0, 2)},
		"between":                 {named(300, 'p', 0, 1, 2), named(300, 'q', 1), 300, all},
		"in between":              {named(300, 'p', 0, 2), named(300, 'q', 1), 300, all},
		"from nothing":            {named(300, 'p', 0, 1, 2), named(300, 'q', 1), 0, all},
		"p behind the end":        {named(300, 'p', 0, 1, 2), named(128, 'q'), 0, named(128, 'p', 0)},
		"all of p behind the end": {named(300, 'p', 1, 2), named(128, 'q'), 300, named(128, 'j')},
		"to nothing":              {named(300, 'p', 0, 1, 2), named(0, 'q'), 300, named(0, 'j')},
		"the end is shorter":      {named(300, 'p', 2), named(257, 'q', 2), 300, named(257, 'q', 2)},
		"the end is longer":       {named(300, 'p', 2), named(384, 'q', 2), 300, named(384, 'q', 2)},
		"a page more":             {named(256, 'p'), named(300, 'q', 2), 300, named(300, 'q', 2)},
		"from nothing to nothing": {named(300, 'p', 0, 1, 2), named(0, 'q'), 0, named(0, 'j')},
		"through nothing":         {named(0, 'p'), named(300, 'q', 0, 1, 2), 300, named(300, 'q', 0, 1, 2)},
		"p shorter, q longer":     {named(130, 'p', 1), named(256, 'q', 1), 300, named(256, 'q', 1)},
		"of the longest images":   {named(0, 'p'), named(1, 'q', 0), math.MaxInt, named(1, 'q', 0)},
	} {
		got, e := image.Join(c.p, c.q, c.n)
		if e != api.OK || !image.Equal(got, c.want) {
			t.Errorf("%s: %+v %d instead of %+v", name, got, e, c.want)
		}
	}
}

func TestP3_3JoinRefusesPatchesThatAreNotValid(t *testing.T) {
	for name, c := range map[string]struct {
		p, q image.Patch
		n    int
	}{
		"p for no images":        {patch(0), patch(0), -1},
		"p for shorter images":   {patch(300), patch(300), 301},
		"p for other images":     {patch(300), patch(300), 0},
		"p with a page too many": {patch(300, [2]int{3, 0}), patch(300), 300},
		"p of no length":         {patch(-1), patch(0), 0},
		"p too long":             {patch(api.MaxImage + 1), patch(0), api.MaxImage + 1},
		"q for shorter images":   {patch(300), patch(299), 300},
		"q for the old images":   {patch(256), patch(300), 300},
		"q for longer images":    {patch(300), patch(300 + size), 300},
		"q of no length":         {patch(300), patch(-1), 300},
		"q too long":             {patch(0), patch(api.MaxImage + 1), 0},
		"q with a page too many": {patch(300), patch(300, [2]int{3, 0}), 300},
		"q with a negative page": {patch(300), patch(300, [2]int{-1, 0}), 300},
		"q with a huge page":     {patch(300), patch(300, [2]int{math.MaxInt, 1}), 300},
		"q out of order":         {patch(300), patch(300, [2]int{1, 128}, [2]int{0, 128}), 300},
		"q with a wrong page":    {patch(300), patch(300, [2]int{0, 44}), 300},
		"both":                   {patch(-1), patch(-1), -1},
	} {
		if got, e := image.Join(c.p, c.q, c.n); e != api.ErrArg || got.Len != 0 || len(got.Changes) != 0 {
			t.Errorf("%s: %+v %d", name, got, e)
		}
	}
}

func TestP3_3JoinIsIndependent(t *testing.T) {
	p, q := named(300, 'p', 0, 1), named(300, 'q', 1, 2)
	got, e := image.Join(p, q, 300)
	if e != api.OK {
		t.Fatal(e)
	}
	scribble(t, got)
	got.Changes = append(got.Changes[:0], image.Change{Page: 9})
	if !image.Equal(p, named(300, 'p', 0, 1)) || !image.Equal(q, named(300, 'q', 1, 2)) {
		t.Error("the joint patch shares memory with the arguments")
	}
	// Data that share memory with each other do not do so in the result.
	p.Changes[1].Data = p.Changes[0].Data
	got, _ = image.Join(p, named(300, 'q'), 300)
	scribble(t, got)
}

func TestP3_1EqualArgumentsHaveEqualResults(t *testing.T) {
	x := rand.New(rand.NewSource(9))
	a, b, c := randomImage(x), randomImage(x), randomImage(x)
	p, q := diff(t, a, b), diff(t, b, c)
	wantA, wantP, wantQ := slices.Clone(a), copyOf(p), copyOf(q)
	first, _ := image.Join(p, q, len(a))
	image.Join(q, p, 7)
	image.Apply(c, q)
	second, _ := image.Join(p, q, len(a))
	if !image.Equal(first, second) || !image.Equal(diff(t, a, b), p) || !bytes.Equal(apply(t, a, p), b) {
		t.Error("the results differ")
	}
	if !bytes.Equal(a, wantA) || !image.Equal(p, wantP) || !image.Equal(q, wantQ) {
		t.Error("the arguments were changed")
	}
}
