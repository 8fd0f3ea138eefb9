package flat_test

import (
	"math"
	"math/rand"
	"slices"
	"testing"

	"pavior/api"
	"pavior/flat"
)

var (
	oddNumbers = []int{
		math.MinInt, math.MinInt + 1, -1 << 32, -4096, -256, -255, -8, -1, 0, 1, 2, 3, 7, 8, 9, 254, 255, 256, 4094, 4095, 4096,
		4097, 1 << 32, 1<<32 + 1, math.MaxInt - 4096, math.MaxInt - 1, math.MaxInt,
	}
	plain = api.Rights{}
	write = api.Rights{Write: true}
	exec  = api.Rights{Exec: true}
	both  = api.Rights{Write: true, Exec: true}
)

// cell is what a page has: an area's rights, and words.
type cell struct {
	has    bool
	rights api.Rights
	huge   bool
	words  [8]uint64
}

// space knows of each of its pages what it has; the list of areas follows from that.
type space [4096]cell

func (s *space) list() []api.Area {
	var l []api.Area
	for p := 0; p < len(s); {
		from := p
		for p++; p < len(s) && s.alike(p, from); p++ {
		}
		if c := s[from]; c.has {
			l = append(l, api.Area{From: from, To: p, Rights: c.rights, Huge: c.huge})
		}
	}
	return l
}

func (s *space) alike(p, q int) bool {
	return s[p].has == s[q].has && s[p].rights == s[q].rights && s[p].huge == s[q].huge
}

// with does something to each of some pages of a copy, which comes to nothing if there would be too many areas.
func (s *space) with(from, to int, do func(*cell)) (*space, error) {
	if from < 0 || from >= to || to > 4096 {
		return s, api.ErrArg
	}
	next := *s
	for p := from; p < to; p++ {
		do(&next[p])
	}
	if len(next.list()) > 64 {
		return s, api.ErrFull
	}
	return &next, nil
}

// withEach is with, where each of the pages has to have an area.
func (s *space) withEach(from, to int, do func(*cell)) (*space, error) {
	if from < 0 || from >= to || to > 4096 {
		return s, api.ErrArg
	}
	if slices.ContainsFunc(s[from:to], func(c cell) bool { return !c.has }) {
		return s, api.ErrNone
	}
	return s.with(from, to, do)
}

// model is what a world of spaces should be, with every page of each.
type model map[int]*space

func (m model) clone() model {
	other := model{}
	for n, s := range m {
		next := *s
		other[n] = &next
	}
	return other
}

func (m model) create(n int) error {
	if n < 1 || n > 255 {
		return api.ErrArg
	}
	if m[n] != nil {
		return api.ErrTwice
	}
	m[n] = &space{}
	return nil
}

func (m model) fork(n, child int) error {
	if child < 1 || child > 255 {
		return api.ErrArg
	}
	if m[n] == nil {
		return api.ErrNone
	}
	if m[child] != nil {
		return api.ErrTwice
	}
	next := *m[n]
	m[child] = &next
	return nil
}

func (m model) end(n int) error {
	if m[n] == nil {
		return api.ErrNone
	}
	delete(m, n)
	return nil
}

// change is of a call that comes to another space in a space's stead.
func (m model) change(n int, next func(*space) (*space, error)) error {
	if m[n] == nil {
		return api.ErrNone
	}
	s, err := next(m[n])
	m[n] = s
	return err
}

func (m model) lay(n, from, to int, r api.Rights) error {
	return m.change(n, func(s *space) (*space, error) {
		return s.with(from, to, func(c *cell) { *c = cell{has: true, rights: r} })
	})
}

func (m model) unmap(n, from, to int) error {
	return m.change(n, func(s *space) (*space, error) {
		return s.with(from, to, func(c *cell) { *c = cell{} })
	})
}

func (m model) protect(n, from, to int, r api.Rights) error {
	return m.change(n, func(s *space) (*space, error) {
		return s.withEach(from, to, func(c *cell) { c.rights = r })
	})
}

func (m model) advise(n, from, to int, huge bool) error {
	return m.change(n, func(s *space) (*space, error) {
		return s.withEach(from, to, func(c *cell) { c.huge = huge })
	})
}

// at is a page's cell, if there is one that has an area.
func (m model) at(n, page, i int) (*cell, error) {
	switch {
	case m[n] == nil:
		return nil, api.ErrNone
	case i < 0 || i > 7:
		return nil, api.ErrArg
	case page < 0 || page > 4095 || !m[n][page].has:
		return nil, api.ErrNone
	}
	return &m[n][page], nil
}

func (m model) load(n, page, i int) (uint64, error) {
	c, err := m.at(n, page, i)
	if err != nil {
		return 0, err
	}
	return c.words[i], nil
}

func (m model) store(n, page, i int, v uint64) error {
	c, err := m.at(n, page, i)
	if err != nil {
		return err
	}
	if !c.rights.Write {
		return api.ErrRight
	}
	c.words[i] = v
	return nil
}

func (m model) run(n, page int) error {
	c, err := m.at(n, page, 0)
	if err != nil {
		return err
	}
	if !c.rights.Exec {
		return api.ErrRight
	}
	return nil
}

func (m model) spaces() []int {
	var all []int
	for n := range 256 {
		if m[n] != nil {
			all = append(all, n)
		}
	}
	return all
}

func fine(t *testing.T, err error) {
	t.Helper()
	if err != nil {
		t.Fatal(err)
	}
}

// fails wants an error itself, not one that wraps it.
func fails(t *testing.T, err, want error) {
	t.Helper()
	if err != want {
		t.Fatalf("%v, want %v", err, want)
	}
}

func loads(t *testing.T, f *flat.Flat, n, page, i int, want uint64) {
	t.Helper()
	if v, err := f.Load(n, page, i); v != want || err != nil {
		t.Fatalf("Load(%d, %d, %d): %d, %v, want %d", n, page, i, v, err, want)
	}
}

func notLoaded(t *testing.T, f *flat.Flat, n, page, i int, want error) {
	t.Helper()
	if v, err := f.Load(n, page, i); v != 0 || err != want {
		t.Fatalf("Load(%d, %d, %d): %d, %v, want %v", n, page, i, v, err, want)
	}
}

func hasAreas(t *testing.T, f *flat.Flat, n int, want ...api.Area) {
	t.Helper()
	if l, err := f.Areas(n); err != nil || !slices.Equal(l, want) {
		t.Fatalf("Areas(%d): %v, %v, want %v", n, l, err, want)
	}
}

func hasSpaces(t *testing.T, f *flat.Flat, want ...int) {
	t.Helper()
	if got := f.Spaces(); !slices.Equal(got, want) {
		t.Fatalf("Spaces(): %v, want %v", got, want)
	}
}

// stands holds all that a world tells of its spaces, and of some pages of each, against the model.
func stands(t *testing.T, f *flat.Flat, m model, pages ...int) {
	t.Helper()
	hasSpaces(t, f, m.spaces()...)
	for n, s := range m {
		hasAreas(t, f, n, s.list()...)
		for _, page := range pages {
			for i := range 8 {
				want, wantErr := m.load(n, page, i)
				if v, err := f.Load(n, page, i); v != want || err != wantErr {
					t.Fatalf("Load(%d, %d, %d): %d, %v, want %d, %v", n, page, i, v, err, want, wantErr)
				}
			}
			fails(t, f.Run(n, page), m.run(n, page))
		}
	}
}

// one is a world of space 1, with areas of all rights: pages 0 to 3 plain, 4 to 7 Write, 8 to 11 Exec, 12 to 15 both; word i
// of page p of those to be written is 100p+i+1.
func one(t *testing.T) *flat.Flat {
	t.Helper()
	f := flat.New()
	fine(t, f.Make(1))
	for i, r := range []api.Rights{plain, write, exec, both} {
		fine(t, f.Map(1, 4*i, 4*i+4, r))
	}
	for _, p := range []int{4, 5, 6, 7, 12, 13, 14, 15} {
		for i := range 8 {
			fine(t, f.Store(1, p, i, uint64(100*p+i+1)))
		}
	}
	return f
}

// ones are the areas of space 1 of that world.
func ones() []api.Area {
	return []api.Area{{From: 0, To: 4}, {From: 4, To: 8, Rights: write}, {From: 8, To: 12, Rights: exec}, {From: 12, To: 16, Rights: both}}
}

// fill maps every other page of a space from one on, n of them.
func fill(t *testing.T, f *flat.Flat, space, first, n int) {
	t.Helper()
	for i := range n {
		fine(t, f.Map(space, first+2*i, first+2*i+1, write))
	}
}

// The chapter's example.
func TestExample(t *testing.T) {
	f := flat.New()
	fine(t, f.Make(1))
	fine(t, f.Map(1, 0, 2, write))
	fine(t, f.Store(1, 0, 3, 9))
	fine(t, f.Fork(1, 2))
	fine(t, f.Store(2, 0, 3, 4))
	loads(t, f, 1, 0, 3, 9)
	loads(t, f, 2, 0, 3, 4)
}

// P10.1
func TestMake(t *testing.T) {
	f := flat.New()
	hasSpaces(t, f)
	for _, n := range oddNumbers {
		if n < 1 || n > 255 {
			fails(t, f.Make(n), api.ErrArg)
			hasSpaces(t, f)
		}
	}
	var all []int
	for n := 255; n > 0; n-- {
		fine(t, f.Make(n))
		all = append([]int{n}, all...)
		hasSpaces(t, f, all...)
		hasAreas(t, f, n)
		fails(t, f.Make(n), api.ErrTwice)
	}
	fails(t, f.Make(0), api.ErrArg)
	fails(t, f.Make(256), api.ErrArg)
	hasSpaces(t, f, all...)
}

// P10.1: a space that is made twice stays as it is.
func TestMakeTwice(t *testing.T) {
	f := one(t)
	fails(t, f.Make(1), api.ErrTwice)
	hasAreas(t, f, 1, ones()...)
	loads(t, f, 1, 4, 0, 401)
}

// P10.1
func TestForkErrors(t *testing.T) {
	f := one(t)
	fine(t, f.Make(2))
	for _, n := range oddNumbers {
		may := n >= 1 && n <= 255
		if !may {
			fails(t, f.Fork(1, n), api.ErrArg)
			fails(t, f.Fork(7, n), api.ErrArg)
			fails(t, f.Fork(n, n), api.ErrArg)
			fails(t, f.Fork(n, 0), api.ErrArg)
			fails(t, f.Fork(n, 9), api.ErrNone)
			fails(t, f.Fork(n, 1), api.ErrNone)
		}
		if may && n > 2 {
			fails(t, f.Fork(n, 9), api.ErrNone)
			fails(t, f.Fork(n, n), api.ErrNone)
			fails(t, f.Fork(n, 1), api.ErrNone)
		}
	}
	fails(t, f.Fork(1, 1), api.ErrTwice)
	fails(t, f.Fork(1, 2), api.ErrTwice)
	fails(t, f.Fork(2, 1), api.ErrTwice)
	hasSpaces(t, f, 1, 2)
	hasAreas(t, f, 1, ones()...)
	hasAreas(t, f, 2)
	loads(t, f, 1, 4, 0, 401)
}

// P10.1: the same areas, and the same words.
func TestFork(t *testing.T) {
	f := one(t)
	fine(t, f.Advise(1, 2, 6, true))
	for _, child := range []int{255, 2, 100} {
		fine(t, f.Fork(1, child))
		l, err := f.Areas(1)
		fine(t, err)
		hasAreas(t, f, child, l...)
		for p := range 16 {
			for i := range 8 {
				v, err := f.Load(1, p, i)
				fine(t, err)
				loads(t, f, child, p, i, v)
			}
		}
	}
	hasSpaces(t, f, 1, 2, 100, 255)
	fine(t, f.Make(3))
	fine(t, f.Fork(3, 4))
	hasAreas(t, f, 4)
	fine(t, f.Fork(4, 5))
	hasSpaces(t, f, 1, 2, 3, 4, 5, 100, 255)
}

// P10.1, P10.5: words and areas of a space and one that is forked off go their own ways, and so do those of a fork's fork.
func TestForkGoesItsOwnWay(t *testing.T) {
	for _, c := range [][2]int{{1, 2}, {2, 1}, {3, 1}, {1, 3}, {2, 3}, {3, 2}} {
		f := one(t)
		fine(t, f.Fork(1, 2))
		fine(t, f.Fork(2, 3))
		moves, others := c[0], slices.DeleteFunc([]int{1, 2, 3}, func(n int) bool { return n == c[0] })
		fine(t, f.Store(moves, 4, 0, 7))
		fine(t, f.Map(moves, 5, 6, both))
		fine(t, f.Unmap(moves, 6, 7))
		fine(t, f.Protect(moves, 7, 8, plain))
		fine(t, f.Advise(moves, 12, 13, true))
		fine(t, f.Map(moves, 100, 101, write))
		fine(t, f.Store(moves, 100, 7, 8))
		for _, n := range others {
			hasAreas(t, f, n, ones()...)
			for _, p := range []int{4, 5, 6, 7, 12} {
				loads(t, f, n, p, 0, uint64(100*p+1))
			}
			notLoaded(t, f, n, 100, 7, api.ErrNone)
		}
		fine(t, f.End(moves))
		for _, n := range others {
			hasAreas(t, f, n, ones()...)
			loads(t, f, n, 4, 0, 401)
		}
		fine(t, f.Store(c[1], 4, 1, 9))
		loads(t, f, c[1], 4, 1, 9)
	}
}

// P10.1
func TestEnd(t *testing.T) {
	f := one(t)
	fine(t, f.Make(2))
	for _, n := range oddNumbers {
		if n != 1 && n != 2 {
			fails(t, f.End(n), api.ErrNone)
		}
	}
	hasSpaces(t, f, 1, 2)
	fine(t, f.End(1))
	hasSpaces(t, f, 2)
	fails(t, f.End(1), api.ErrNone)
	fails(t, f.Fork(1, 3), api.ErrNone)
	notLoaded(t, f, 1, 4, 0, api.ErrNone)
	fine(t, f.End(2))
	hasSpaces(t, f)
	fails(t, f.End(2), api.ErrNone)
}

// P10.1, P10.5: a number that is given anew has nothing of the space that had it.
func TestMadeAnew(t *testing.T) {
	f := one(t)
	fine(t, f.End(1))
	fine(t, f.Make(1))
	hasAreas(t, f, 1)
	notLoaded(t, f, 1, 4, 0, api.ErrNone)
	fine(t, f.Map(1, 0, 16, write))
	for p := range 16 {
		for i := range 8 {
			loads(t, f, 1, p, i, 0)
		}
	}
	fine(t, f.Fork(1, 2))
	fine(t, f.Store(2, 4, 0, 5))
	fine(t, f.End(2))
	fine(t, f.Fork(1, 2))
	loads(t, f, 2, 4, 0, 0)
}

// P10.2, P10.3: where there is no such space, that is told, whatever else may not be; R3: and nothing else.
func TestWithoutSpace(t *testing.T) {
	f := one(t)
	for _, n := range append(oddNumbers, 2) {
		if n == 1 {
			continue
		}
		for _, k := range []int{-1, 0, 3, 4, 8, 4096, math.MaxInt} {
			fails(t, f.Map(n, k, k+1, both), api.ErrNone)
			fails(t, f.Map(n, k, k, both), api.ErrNone)
			fails(t, f.Unmap(n, k, k+1), api.ErrNone)
			fails(t, f.Unmap(n, k, 0), api.ErrNone)
			fails(t, f.Protect(n, k, k+1, both), api.ErrNone)
			fails(t, f.Protect(n, 0, k, both), api.ErrNone)
			fails(t, f.Advise(n, k, k+1, true), api.ErrNone)
			fails(t, f.Advise(n, 0, k, false), api.ErrNone)
			notLoaded(t, f, n, 4, k, api.ErrNone)
			notLoaded(t, f, n, k, 0, api.ErrNone)
			fails(t, f.Store(n, 4, k, 1), api.ErrNone)
			fails(t, f.Store(n, k, 0, 1), api.ErrNone)
			fails(t, f.Run(n, k), api.ErrNone)
		}
		if l, err := f.Areas(n); l != nil || err != api.ErrNone {
			t.Fatal(l, err)
		}
	}
	hasSpaces(t, f, 1)
	hasAreas(t, f, 1, ones()...)
}

// P10.2: pages that may not be an area's.
func TestSpansThatMayNotBe(t *testing.T) {
	f := one(t)
	for _, from := range oddNumbers {
		for _, to := range oddNumbers {
			if 0 <= from && from < to && to <= 4096 {
				continue
			}
			fails(t, f.Map(1, from, to, both), api.ErrArg)
			fails(t, f.Unmap(1, from, to), api.ErrArg)
			fails(t, f.Protect(1, from, to, both), api.ErrArg)
			fails(t, f.Advise(1, from, to, true), api.ErrArg)
		}
	}
	hasAreas(t, f, 1, ones()...)
	for _, p := range []int{4, 7, 12, 15} {
		loads(t, f, 1, p, 7, uint64(100*p+8))
	}
}

// P10.2: what is mapped lies over what was there; its words are 0, those of others stay.
func TestMap(t *testing.T) {
	f := one(t)
	fine(t, f.Advise(1, 4, 8, true))
	fine(t, f.Map(1, 5, 7, write))
	hasAreas(t, f, 1,
		api.Area{From: 0, To: 4}, api.Area{From: 4, To: 5, Rights: write, Huge: true}, api.Area{From: 5, To: 7, Rights: write},
		api.Area{From: 7, To: 8, Rights: write, Huge: true}, api.Area{From: 8, To: 12, Rights: exec},
		api.Area{From: 12, To: 16, Rights: both})
	for i := range 8 {
		loads(t, f, 1, 4, i, uint64(401+i))
		loads(t, f, 1, 5, i, 0)
		loads(t, f, 1, 6, i, 0)
		loads(t, f, 1, 7, i, uint64(701+i))
	}
	fine(t, f.Map(1, 12, 16, both))
	for p := 12; p < 16; p++ {
		loads(t, f, 1, p, p-12, 0)
	}
	fine(t, f.Map(1, 0, 4096, write))
	hasAreas(t, f, 1, api.Area{From: 0, To: 4096, Rights: write})
	for p := range 4096 {
		loads(t, f, 1, p, p%8, 0)
	}
	for _, p := range []int{0, 2048, 4095} {
		fine(t, f.Store(1, p, 7, math.MaxUint64))
		loads(t, f, 1, p, 7, math.MaxUint64)
	}
}

// P10.2: with each of the rights.
func TestMapRights(t *testing.T) {
	for _, r := range []api.Rights{plain, write, exec, both} {
		f := flat.New()
		fine(t, f.Make(255))
		fine(t, f.Map(255, 4090, 4096, r))
		hasAreas(t, f, 255, api.Area{From: 4090, To: 4096, Rights: r})
	}
}

// P10.2: words of pages that have no area any more are gone: they don't come back.
func TestUnmap(t *testing.T) {
	f := one(t)
	fine(t, f.Unmap(1, 5, 14))
	hasAreas(t, f, 1, api.Area{From: 0, To: 4}, api.Area{From: 4, To: 5, Rights: write}, api.Area{From: 14, To: 16, Rights: both})
	for p := 5; p < 14; p++ {
		notLoaded(t, f, 1, p, 0, api.ErrNone)
		fails(t, f.Store(1, p, 0, 1), api.ErrNone)
		fails(t, f.Run(1, p), api.ErrNone)
	}
	for i := range 8 {
		loads(t, f, 1, 4, i, uint64(401+i))
		loads(t, f, 1, 14, i, uint64(1401+i))
	}
	fine(t, f.Map(1, 5, 14, both))
	for p := 5; p < 14; p++ {
		loads(t, f, 1, p, p%8, 0)
	}
	fine(t, f.Unmap(1, 1000, 2000))
	fine(t, f.Unmap(1, 0, 4096))
	fine(t, f.Unmap(1, 0, 4096))
	hasAreas(t, f, 1)
	fine(t, f.Map(1, 0, 16, write))
	loads(t, f, 1, 4, 0, 0)
	loads(t, f, 1, 15, 7, 0)
}

// P10.2, P10.5: rights come and go, the words stay.
func TestProtect(t *testing.T) {
	f := one(t)
	fails(t, f.Protect(1, 0, 17, write), api.ErrNone)
	fails(t, f.Protect(1, 16, 17, write), api.ErrNone)
	hasAreas(t, f, 1, ones()...)
	fine(t, f.Advise(1, 5, 6, true))
	fine(t, f.Protect(1, 4, 8, plain))
	hasAreas(t, f, 1,
		api.Area{From: 0, To: 5}, api.Area{From: 5, To: 6, Huge: true}, api.Area{From: 6, To: 8},
		api.Area{From: 8, To: 12, Rights: exec}, api.Area{From: 12, To: 16, Rights: both})
	for p := 4; p < 8; p++ {
		loads(t, f, 1, p, 0, uint64(100*p+1))
		fails(t, f.Store(1, p, 0, 1), api.ErrRight)
		fails(t, f.Run(1, p), api.ErrRight)
	}
	fine(t, f.Protect(1, 4, 6, exec))
	fails(t, f.Store(1, 4, 0, 1), api.ErrRight)
	fine(t, f.Run(1, 4))
	fine(t, f.Protect(1, 0, 16, both))
	hasAreas(t, f, 1,
		api.Area{From: 0, To: 5, Rights: both}, api.Area{From: 5, To: 6, Rights: both, Huge: true}, api.Area{From: 6, To: 16, Rights: both})
	for p := 4; p < 8; p++ {
		loads(t, f, 1, p, 7, uint64(100*p+8))
		fine(t, f.Store(1, p, 7, 1))
		loads(t, f, 1, p, 7, 1)
		loads(t, f, 1, p, 6, uint64(100*p+7))
	}
}

// P10.2
func TestAdvise(t *testing.T) {
	f := one(t)
	fails(t, f.Advise(1, 0, 17, true), api.ErrNone)
	fails(t, f.Advise(1, 4095, 4096, false), api.ErrNone)
	hasAreas(t, f, 1, ones()...)
	fine(t, f.Advise(1, 3, 5, true))
	hasAreas(t, f, 1,
		api.Area{From: 0, To: 3}, api.Area{From: 3, To: 4, Huge: true}, api.Area{From: 4, To: 5, Rights: write, Huge: true},
		api.Area{From: 5, To: 8, Rights: write}, api.Area{From: 8, To: 12, Rights: exec}, api.Area{From: 12, To: 16, Rights: both})
	loads(t, f, 1, 4, 0, 401)
	fine(t, f.Store(1, 4, 0, 2))
	fine(t, f.Advise(1, 0, 16, false))
	hasAreas(t, f, 1, ones()...)
	loads(t, f, 1, 4, 0, 2)
	fails(t, f.Store(1, 3, 0, 2), api.ErrRight)
}

// P10.2: a call that would come to too many areas changes neither them nor the words.
func TestFull(t *testing.T) {
	f := flat.New()
	fine(t, f.Make(1))
	fill(t, f, 1, 100, 63)
	fine(t, f.Map(1, 10, 20, write))
	fine(t, f.Store(1, 15, 1, 5))
	was, err := f.Areas(1)
	fine(t, err)
	fails(t, f.Map(1, 300, 301, write), api.ErrFull)
	fails(t, f.Map(1, 15, 16, exec), api.ErrFull)
	fails(t, f.Unmap(1, 15, 16), api.ErrFull)
	fails(t, f.Protect(1, 15, 16, both), api.ErrFull)
	fails(t, f.Protect(1, 15, 25, both), api.ErrNone)
	fails(t, f.Advise(1, 15, 16, true), api.ErrFull)
	fails(t, f.Advise(1, 15, 25, true), api.ErrNone)
	fails(t, f.Map(1, 15, 15, exec), api.ErrArg)
	hasAreas(t, f, 1, was...)
	notLoaded(t, f, 1, 300, 0, api.ErrNone)
	loads(t, f, 1, 15, 1, 5)
	fine(t, f.Map(1, 15, 16, write))
	hasAreas(t, f, 1, was...)
	loads(t, f, 1, 15, 1, 0)
	fine(t, f.Fork(1, 2))
	hasAreas(t, f, 2, was...)
	fails(t, f.Map(2, 300, 301, write), api.ErrFull)
	fine(t, f.Unmap(2, 100, 101))
	fine(t, f.Map(2, 300, 301, write))
	fails(t, f.Map(1, 300, 301, write), api.ErrFull)
}

// P10.3
func TestLoad(t *testing.T) {
	f := one(t)
	for _, i := range oddNumbers {
		if i >= 0 && i <= 7 {
			continue
		}
		for _, p := range []int{0, 4, 8, 12, 16, -1, 4096} {
			notLoaded(t, f, 1, p, i, api.ErrArg)
		}
	}
	for _, p := range append(oddNumbers, 16, 100) {
		if p < 0 || p >= 16 {
			notLoaded(t, f, 1, p, 0, api.ErrNone)
			notLoaded(t, f, 1, p, 7, api.ErrNone)
		}
	}
	for p := range 16 {
		for i := range 8 {
			want := uint64(0)
			if p&4 != 0 {
				want = uint64(100*p + i + 1)
			}
			loads(t, f, 1, p, i, want)
		}
	}
}

// P10.3: what can't be stored leaves all words as they were.
func TestStore(t *testing.T) {
	f := one(t)
	for _, i := range oddNumbers {
		if i >= 0 && i <= 7 {
			continue
		}
		for _, p := range []int{0, 4, 8, 12, 16, -1, 4096} {
			fails(t, f.Store(1, p, i, 9), api.ErrArg)
		}
	}
	for _, p := range append(oddNumbers, 16, 100) {
		if p < 0 || p >= 16 {
			fails(t, f.Store(1, p, 0, 9), api.ErrNone)
			fails(t, f.Store(1, p, 7, 9), api.ErrNone)
		}
	}
	for p := range 16 {
		for i := range 8 {
			want := uint64(0)
			if p&4 != 0 {
				want = uint64(100*p + i + 1)
				loads(t, f, 1, p, i, want)
				want = math.MaxUint64 - want
				fine(t, f.Store(1, p, i, want))
			} else {
				fails(t, f.Store(1, p, i, 9), api.ErrRight)
			}
			loads(t, f, 1, p, i, want)
		}
	}
	fine(t, f.Store(1, 4, 3, 0))
	loads(t, f, 1, 4, 3, 0)
	loads(t, f, 1, 4, 2, math.MaxUint64-403)
}

// P10.3
func TestRun(t *testing.T) {
	f := one(t)
	for _, p := range append(oddNumbers, 16, 100) {
		if p < 0 || p >= 16 {
			fails(t, f.Run(1, p), api.ErrNone)
		}
	}
	for p := range 16 {
		if p < 8 {
			fails(t, f.Run(1, p), api.ErrRight)
		} else {
			fine(t, f.Run(1, p))
		}
	}
	loads(t, f, 1, 12, 0, 1201)
}

// P10.4, R2: what is told may go its own ways, as far as its memory reaches.
func TestToldIsNew(t *testing.T) {
	f := one(t)
	fine(t, f.Fork(1, 2))
	for range 2 {
		for _, n := range []int{1, 2} {
			l, err := f.Areas(n)
			fine(t, err)
			spare := l[:cap(l)]
			for i := range spare {
				spare[i] = api.Area{From: 7, To: 9, Rights: exec}
			}
		}
		numbers := f.Spaces()
		spare := numbers[:cap(numbers)]
		for i := range spare {
			spare[i] = 77
		}
		hasSpaces(t, f, 1, 2)
		hasAreas(t, f, 1, ones()...)
		hasAreas(t, f, 2, ones()...)
	}
	told, err := f.Areas(1)
	fine(t, err)
	numbers := f.Spaces()
	fine(t, f.Unmap(1, 0, 4096))
	fine(t, f.End(2))
	if !slices.Equal(told, ones()) || !slices.Equal(numbers, []int{1, 2}) {
		t.Error("what was told follows the world")
	}
}

// P10.4
func TestClone(t *testing.T) {
	f := one(t)
	fine(t, f.Make(7))
	other := f.Clone()
	hasSpaces(t, other, 1, 7)
	hasAreas(t, other, 1, ones()...)
	hasAreas(t, other, 7)
	for p := range 16 {
		for i := range 8 {
			v, err := f.Load(1, p, i)
			fine(t, err)
			loads(t, other, 1, p, i, v)
		}
	}
	fine(t, flat.New().Clone().Make(1))
	hasSpaces(t, flat.New().Clone())
}

// P10.4: neither follows the other one.
func TestCloneGoesItsOwnWay(t *testing.T) {
	for _, cloneMoves := range []bool{false, true} {
		stays := one(t)
		fine(t, stays.Make(7))
		moves := stays.Clone()
		if cloneMoves {
			stays, moves = moves, stays
		}
		fine(t, moves.Store(1, 4, 0, 9))
		fine(t, moves.Map(1, 5, 6, both))
		fine(t, moves.Unmap(1, 6, 7))
		fine(t, moves.Protect(1, 7, 8, plain))
		fine(t, moves.Advise(1, 12, 13, true))
		fine(t, moves.Map(7, 0, 1, both))
		fine(t, moves.Fork(1, 3))
		fine(t, moves.Make(2))
		hasSpaces(t, stays, 1, 7)
		hasAreas(t, stays, 7)
		fine(t, moves.End(1))
		fine(t, moves.End(7))
		hasSpaces(t, stays, 1, 7)
		hasSpaces(t, moves, 2, 3)
		hasAreas(t, stays, 1, ones()...)
		for _, p := range []int{4, 5, 6, 7, 12} {
			loads(t, stays, 1, p, 0, uint64(100*p+1))
		}
		loads(t, moves, 3, 4, 0, 9)
		loads(t, moves, 3, 5, 0, 0)
	}
}

// P10.5: what was stored is loaded in that space alone, through whatever else is done, until it is mapped anew or unmapped.
func TestWhatFollows(t *testing.T) {
	for _, last := range []func(*flat.Flat) error{
		func(f *flat.Flat) error { return f.Map(1, 20, 30, exec) },
		func(f *flat.Flat) error { return f.Unmap(1, 24, 25) },
	} {
		f := flat.New()
		fine(t, f.Make(1))
		fine(t, f.Make(2))
		for _, n := range []int{1, 2} {
			fine(t, f.Map(n, 20, 30, write))
		}
		fine(t, f.Store(1, 24, 6, 11))
		fine(t, f.Fork(1, 3))
		fine(t, f.Fork(3, 4))
		for n, want := range map[int]uint64{1: 11, 2: 0, 3: 11, 4: 11} {
			loads(t, f, n, 24, 6, want)
			loads(t, f, n, 24, 5, 0)
			loads(t, f, n, 23, 6, 0)
		}
		fine(t, f.Map(1, 25, 40, both))
		fine(t, f.Map(1, 10, 24, both))
		fine(t, f.Unmap(1, 25, 26))
		fine(t, f.Protect(1, 20, 25, plain))
		fine(t, f.Protect(1, 22, 25, exec))
		fine(t, f.Advise(1, 23, 25, true))
		fine(t, f.Store(2, 24, 6, 12))
		fine(t, f.Store(3, 24, 6, 13))
		fine(t, f.End(3))
		loads(t, f, 1, 24, 6, 11)
		loads(t, f, 2, 24, 6, 12)
		loads(t, f, 4, 24, 6, 11)
		fine(t, last(f))
		fine(t, f.Map(1, 24, 25, plain))
		for i := range 8 {
			loads(t, f, 1, 24, i, 0)
		}
		loads(t, f, 2, 24, 6, 12)
		loads(t, f, 4, 24, 6, 11)
	}
}

// P1: no call panics, whatever it is given.
func TestAllArguments(t *testing.T) {
	f := one(t)
	for _, a := range oddNumbers {
		for _, b := range oddNumbers {
			f.Make(a)
			f.Fork(a, b)
			f.Run(a, b)
			f.Areas(a)
			for _, c := range oddNumbers {
				f.Load(a, b, c)
				f.Store(a, b, c, math.MaxUint64)
				f.Protect(a, b, c, write)
				f.Advise(a, b, c, true)
				f.Map(a, b, c, both)
				f.Unmap(a, b, c)
			}
			f.End(a)
			f.Spaces()
		}
	}
	f.Clone().Spaces()
}

// world is what long runs of calls are done to, a model beside it, and with which numbers.
type world struct {
	f           *flat.Flat
	m           model
	numbers     []int
	base, pages int
	long        int
}

// P10.1 to P10.5: long runs of calls, each held against the model; some spaces come to as many areas as there may be. Clones
// take the world's place, or stay behind and are held against what it was.
func TestManyCalls(t *testing.T) {
	r := rand.New(rand.NewSource(10))
	errs := map[error]int{}
	for round := range 40 {
		w := &world{f: flat.New(), m: model{}, numbers: []int{1, 2, 3, 254, 255, 0, 256, -1}, long: 1 + r.Intn(6)}
		w.pages = []int{6, 12, 160, 400}[round%4]
		w.base = []int{0, 4096 - w.pages, r.Intn(4096 - w.pages)}[r.Intn(3)]
		w.start(t)
		var behind *flat.Flat
		var was model
		for k := range 500 {
			errs[w.call(t, r)]++
			stands(t, w.f, w.m, w.page(r), w.page(r))
			if k%100 == 50 {
				behind, was = w.f.Clone(), w.m.clone()
				if r.Intn(2) == 0 {
					behind, w.f = w.f, behind
				}
			}
		}
		var all []int
		for p := w.base; p < w.base+w.pages; p++ {
			all = append(all, p)
		}
		stands(t, w.f, w.m, all...)
		stands(t, behind, was, all...)
	}
	for _, err := range []error{nil, api.ErrArg, api.ErrNone, api.ErrTwice, api.ErrFull, api.ErrRight} {
		if errs[err] < 50 {
			t.Error("too few of one kind", errs)
		}
	}
}

// start makes space 1, with nearly as many areas as there may be, where there are pages enough.
func (w *world) start(t *testing.T) {
	t.Helper()
	fine(t, w.f.Make(1))
	fine(t, w.m.create(1))
	n := min(62, w.pages/2)
	fill(t, w.f, 1, w.base, n)
	for i := range n {
		fine(t, w.m.lay(1, w.base+2*i, w.base+2*i+1, write))
	}
}

// page is one of those that the run is about, or one beside them, which may be none.
func (w *world) page(r *rand.Rand) int {
	return w.base - 1 + r.Intn(w.pages+2)
}

// number is a space's: mostly one that is there.
func (w *world) number(r *rand.Rand) int {
	if there := w.m.spaces(); len(there) > 0 && r.Intn(8) > 0 {
		return there[r.Intn(len(there))]
	}
	return w.numbers[r.Intn(len(w.numbers))]
}

// call does one thing to the world and to the model, and holds the answers against each other.
func (w *world) call(t *testing.T, r *rand.Rand) error {
	t.Helper()
	n, page, i, v := w.number(r), w.page(r), r.Intn(8), r.Uint64()
	from, to := page, page+r.Intn(w.long+1)
	if r.Intn(10) == 0 {
		i = []int{-1, 8, math.MinInt, math.MaxInt}[r.Intn(4)]
	}
	rights := []api.Rights{plain, write, write, write, exec, both}[r.Intn(6)]
	huge := r.Intn(2) == 0
	var err, want error
	switch kind := r.Intn(40); {
	case kind < 2:
		n = w.numbers[r.Intn(len(w.numbers))]
		err, want = w.f.Make(n), w.m.create(n)
	case kind < 4:
		child := w.numbers[r.Intn(len(w.numbers))]
		err, want = w.f.Fork(n, child), w.m.fork(n, child)
	case kind < 5:
		err, want = w.f.End(n), w.m.end(n)
	case kind < 16:
		err, want = w.f.Map(n, from, to, rights), w.m.lay(n, from, to, rights)
	case kind < 18:
		err, want = w.f.Unmap(n, from, to), w.m.unmap(n, from, to)
	case kind < 22:
		err, want = w.f.Protect(n, from, to, rights), w.m.protect(n, from, to, rights)
	case kind < 24:
		err, want = w.f.Advise(n, from, to, huge), w.m.advise(n, from, to, huge)
	case kind < 36:
		err, want = w.f.Store(n, page, i, v), w.m.store(n, page, i, v)
	case kind < 38:
		var got, word uint64
		got, err = w.f.Load(n, page, i)
		word, want = w.m.load(n, page, i)
		if got != word {
			t.Fatalf("Load(%d, %d, %d): %d, want %d", n, page, i, got, word)
		}
	default:
		err, want = w.f.Run(n, page), w.m.run(n, page)
	}
	fails(t, err, want)
	return err
}
