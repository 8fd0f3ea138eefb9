package rmap_test

import (
	"math"
	"math/rand"
	"slices"
	"testing"

	"pavior/api"
	"pavior/rmap"
)

var oddNumbers = []int{
	math.MinInt, math.MinInt + 1, -1 << 32, -4096, -512, -255, -2, -1, 0, 1, 2, 7, 8, 254, 255, 256, 510, 511, 512, 513, 4094, 4095,
	4096, 4097, 1 << 32, 1<<32 + 1, math.MaxInt - 1, math.MaxInt,
}

func at(space, page int) api.Where { return api.Where{Space: space, Page: page} }

func mayFrame(f int) bool { return f >= 0 && f <= 511 }

func mayPage(w api.Where) bool {
	return w.Space >= 1 && w.Space <= 255 && w.Page >= 0 && w.Page <= 4095
}

// model is what a map should tell: pages and their frames, in no order; all else is sought through the whole of it.
type model []entry

type entry struct {
	w     api.Where
	frame int
}

func (m model) find(w api.Where) int {
	return slices.IndexFunc(m, func(e entry) bool { return e.w == w })
}

func (m *model) add(frame int, w api.Where) error {
	if !mayFrame(frame) || !mayPage(w) {
		return api.ErrArg
	}
	if m.find(w) >= 0 {
		return api.ErrTwice
	}
	*m = append(*m, entry{w, frame})
	return nil
}

func (m *model) remove(w api.Where) (int, error) {
	i := m.find(w)
	if i < 0 {
		return 0, api.ErrNone
	}
	frame := (*m)[i].frame
	*m = slices.Delete(*m, i, i+1)
	return frame, nil
}

func (m model) frame(w api.Where) (int, error) {
	i := m.find(w)
	if i < 0 {
		return 0, api.ErrNone
	}
	return m[i].frame, nil
}

func (m model) move(from, to int) error {
	if !mayFrame(from) || !mayFrame(to) || from == to {
		return api.ErrArg
	}
	if len(m.of(to)) > 0 {
		return api.ErrState
	}
	for i := range m {
		if m[i].frame == from {
			m[i].frame = to
		}
	}
	return nil
}

func (m model) of(frame int) []api.Where {
	var all []api.Where
	for _, e := range m {
		if e.frame == frame {
			all = append(all, e.w)
		}
	}
	// A number that rises with spaces, and with pages within them.
	slices.SortFunc(all, func(a, b api.Where) int { return a.Space*4096 + a.Page - b.Space*4096 - b.Page })
	return all
}

func (m model) pages(space int) []api.Mapped {
	var all []api.Mapped
	for _, e := range m {
		if e.w.Space == space {
			all = append(all, api.Mapped{Page: e.w.Page, Frame: e.frame})
		}
	}
	slices.SortFunc(all, func(a, b api.Mapped) int { return a.Page - b.Page })
	return all
}

func (m model) frames() []int {
	var all []int
	for f := range 512 {
		if len(m.of(f)) > 0 {
			all = append(all, f)
		}
	}
	return all
}

func fine(t *testing.T, err error) {
	t.Helper()
	if err != nil {
		t.Fatal(err)
	}
}

// fails wants an error itself, not one that wraps it.
func fails(t *testing.T, err, want error) {
	t.Helper()
	if err != want {
		t.Fatalf("%v, want %v", err, want)
	}
}

func hasFrame(t *testing.T, m *rmap.Map, w api.Where, want int) {
	t.Helper()
	if f, err := m.Frame(w); f != want || err != nil {
		t.Fatalf("Frame(%v): %d, %v, want %d", w, f, err, want)
	}
}

func hasNone(t *testing.T, m *rmap.Map, w api.Where) {
	t.Helper()
	if f, err := m.Frame(w); f != 0 || err != api.ErrNone {
		t.Fatalf("Frame(%v): %d, %v, want ErrNone", w, f, err)
	}
}

func removes(t *testing.T, m *rmap.Map, w api.Where, want int) {
	t.Helper()
	if f, err := m.Remove(w); f != want || err != nil {
		t.Fatalf("Remove(%v): %d, %v, want %d", w, f, err, want)
	}
}

func notRemoved(t *testing.T, m *rmap.Map, w api.Where) {
	t.Helper()
	if f, err := m.Remove(w); f != 0 || err != api.ErrNone {
		t.Fatalf("Remove(%v): %d, %v, want ErrNone", w, f, err)
	}
}

func isOf(t *testing.T, m *rmap.Map, frame int, want ...api.Where) {
	t.Helper()
	if got := m.Of(frame); !slices.Equal(got, want) {
		t.Fatalf("Of(%d): %v, want %v", frame, got, want)
	}
	if n := m.Count(frame); n != len(want) {
		t.Fatalf("Count(%d): %d, want %d", frame, n, len(want))
	}
}

func hasPages(t *testing.T, m *rmap.Map, space int, want ...api.Mapped) {
	t.Helper()
	if got := m.Pages(space); !slices.Equal(got, want) {
		t.Fatalf("Pages(%d): %v, want %v", space, got, want)
	}
}

func hasFrames(t *testing.T, m *rmap.Map, want ...int) {
	t.Helper()
	if got := m.Frames(); !slices.Equal(got, want) {
		t.Fatalf("Frames(): %v, want %v", got, want)
	}
}

// tells holds all that a map tells of some frames, spaces and pages against the model.
func tells(t *testing.T, m *rmap.Map, want model, frames, spaces, pages []int) {
	t.Helper()
	hasFrames(t, m, want.frames()...)
	for _, f := range frames {
		isOf(t, m, f, want.of(f)...)
	}
	for _, s := range spaces {
		hasPages(t, m, s, want.pages(s)...)
		for _, p := range pages {
			f, err := want.frame(at(s, p))
			if got, gotErr := m.Frame(at(s, p)); got != f || gotErr != err {
				t.Fatalf("Frame(%d, %d): %d, %v, want %d, %v", s, p, got, gotErr, f, err)
			}
		}
	}
}

// some is a map in which three pages of three spaces have frame 3, one has frame 0 and one frame 511.
func some(t *testing.T) *rmap.Map {
	t.Helper()
	m := rmap.New()
	fine(t, m.Add(3, at(2, 5)))
	fine(t, m.Add(0, at(255, 4095)))
	fine(t, m.Add(3, at(1, 7)))
	fine(t, m.Add(511, at(1, 0)))
	fine(t, m.Add(3, at(2, 4)))
	return m
}

// isSome wants a map that tells what that one does.
func isSome(t *testing.T, m *rmap.Map) {
	t.Helper()
	hasFrames(t, m, 0, 3, 511)
	isOf(t, m, 0, at(255, 4095))
	isOf(t, m, 3, at(1, 7), at(2, 4), at(2, 5))
	isOf(t, m, 511, at(1, 0))
	hasPages(t, m, 1, api.Mapped{Page: 0, Frame: 511}, api.Mapped{Page: 7, Frame: 3})
	hasPages(t, m, 2, api.Mapped{Page: 4, Frame: 3}, api.Mapped{Page: 5, Frame: 3})
	hasPages(t, m, 255, api.Mapped{Page: 4095, Frame: 0})
	for _, s := range []int{0, 3, 254, 256} {
		hasPages(t, m, s)
	}
	hasFrame(t, m, at(1, 0), 511)
	hasFrame(t, m, at(1, 7), 3)
	hasFrame(t, m, at(2, 4), 3)
	hasFrame(t, m, at(2, 5), 3)
	hasFrame(t, m, at(255, 4095), 0)
	for _, w := range []api.Where{at(1, 4), at(1, 5), at(2, 0), at(2, 7), at(255, 0), at(254, 4095)} {
		hasNone(t, m, w)
	}
}

// The chapter's example.
func TestExample(t *testing.T) {
	m := rmap.New()
	fine(t, m.Add(3, at(1, 0)))
	fine(t, m.Add(3, at(2, 5)))
	fine(t, m.Move(3, 4))
	isOf(t, m, 4, at(1, 0), at(2, 5))
}

// P11.1, P11.2: of a map in which nothing has one, nothing is told.
func TestNew(t *testing.T) {
	m := rmap.New()
	hasFrames(t, m)
	for _, a := range oddNumbers {
		isOf(t, m, a)
		hasPages(t, m, a)
		for _, b := range oddNumbers {
			hasNone(t, m, at(a, b))
			notRemoved(t, m, at(a, b))
		}
	}
	fine(t, rmap.New().Add(1, at(1, 1)))
	hasFrames(t, rmap.New())
}

// P11.1
func TestAdd(t *testing.T) {
	isSome(t, some(t))
}

// P11.1: what there may not be, each alone and with others.
func TestAddErrArg(t *testing.T) {
	m := some(t)
	for _, frame := range oddNumbers {
		for _, space := range oddNumbers {
			for _, page := range oddNumbers {
				w := at(space, page)
				if !mayFrame(frame) || !mayPage(w) {
					fails(t, m.Add(frame, w), api.ErrArg)
				}
			}
		}
		if !mayFrame(frame) {
			// The page has one already: what may not be goes ahead of that.
			fails(t, m.Add(frame, at(1, 0)), api.ErrArg)
		}
	}
	isSome(t, m)
}

// P11.1: of each frame there may be, of each space, and of each page.
func TestAddEach(t *testing.T) {
	m := rmap.New()
	for f := range 512 {
		fine(t, m.Add(f, at(7, 8*f+f%8)))
	}
	for f := range 512 {
		isOf(t, m, f, at(7, 8*f+f%8))
		hasFrame(t, m, at(7, 8*f+f%8), f)
	}
	m = rmap.New()
	for s := 255; s > 0; s-- {
		fine(t, m.Add(9, at(s, 4095-s)))
	}
	if m.Count(9) != 255 {
		t.Error(m.Count(9))
	}
	for i, w := range m.Of(9) {
		if w != at(i+1, 4094-i) {
			t.Fatal(i, w)
		}
	}
	m = rmap.New()
	for p := 4095; p >= 0; p-- {
		fine(t, m.Add(p%512, at(255, p)))
	}
	for p, e := range m.Pages(255) {
		if e != (api.Mapped{Page: p, Frame: p % 512}) {
			t.Fatal(p, e)
		}
	}
	if len(m.Pages(255)) != 4096 || m.Count(511) != 8 || len(m.Frames()) != 512 {
		t.Error(len(m.Pages(255)), m.Count(511), len(m.Frames()))
	}
}

// P11.1: a page that has one keeps it; with the same frame it is twice, too.
func TestAddTwice(t *testing.T) {
	m := some(t)
	for _, w := range []api.Where{at(2, 5), at(255, 4095), at(1, 7), at(1, 0), at(2, 4)} {
		for _, f := range []int{0, 3, 4, 511} {
			fails(t, m.Add(f, w), api.ErrTwice)
		}
	}
	isSome(t, m)
}

// P11.1
func TestRemove(t *testing.T) {
	m := some(t)
	for _, a := range oddNumbers {
		for _, b := range oddNumbers {
			if w := at(a, b); w != at(1, 0) && w != at(1, 7) && w != at(255, 4095) {
				notRemoved(t, m, w)
				hasNone(t, m, w)
			}
		}
	}
	isSome(t, m)
	removes(t, m, at(2, 4), 3)
	isOf(t, m, 3, at(1, 7), at(2, 5))
	hasPages(t, m, 2, api.Mapped{Page: 5, Frame: 3})
	removes(t, m, at(255, 4095), 0)
	hasFrames(t, m, 3, 511)
	notRemoved(t, m, at(255, 4095))
	hasNone(t, m, at(255, 4095))
	removes(t, m, at(1, 7), 3)
	removes(t, m, at(2, 5), 3)
	removes(t, m, at(1, 0), 511)
	hasFrames(t, m)
	for _, s := range []int{1, 2, 255} {
		hasPages(t, m, s)
	}
	isOf(t, m, 3)
}

// P11.1: what was removed may be added anew, with another frame or the same.
func TestAddAgain(t *testing.T) {
	m := some(t)
	removes(t, m, at(2, 4), 3)
	fine(t, m.Add(5, at(2, 4)))
	hasFrame(t, m, at(2, 4), 5)
	isOf(t, m, 3, at(1, 7), at(2, 5))
	isOf(t, m, 5, at(2, 4))
	removes(t, m, at(2, 4), 5)
	fine(t, m.Add(3, at(2, 4)))
	isSome(t, m)
}

// P11.2: of frames and spaces that there may not be, nothing is told.
func TestTellsOfOddNumbers(t *testing.T) {
	m := some(t)
	for _, n := range oddNumbers {
		if n != 0 && n != 3 && n != 511 {
			isOf(t, m, n)
		}
		if n != 1 && n != 2 && n != 255 {
			hasPages(t, m, n)
		}
	}
}

// P11.3
func TestMoveErrors(t *testing.T) {
	m := some(t)
	for _, a := range oddNumbers {
		for _, b := range oddNumbers {
			if !mayFrame(a) || !mayFrame(b) || a == b {
				fails(t, m.Move(a, b), api.ErrArg)
			}
		}
		fails(t, m.Move(a, a), api.ErrArg)
	}
	// The same frame, and something has it: it goes ahead that they are the same.
	fails(t, m.Move(3, 3), api.ErrArg)
	for _, from := range []int{0, 3, 5, 511} {
		for _, to := range []int{0, 3, 511} {
			if from != to {
				fails(t, m.Move(from, to), api.ErrState)
			}
		}
	}
	isSome(t, m)
}

// P11.3: all that have the one have the other one; those of other frames stay.
func TestMove(t *testing.T) {
	m := some(t)
	fine(t, m.Move(3, 4))
	hasFrames(t, m, 0, 4, 511)
	isOf(t, m, 3)
	isOf(t, m, 4, at(1, 7), at(2, 4), at(2, 5))
	hasPages(t, m, 1, api.Mapped{Page: 0, Frame: 511}, api.Mapped{Page: 7, Frame: 4})
	hasPages(t, m, 2, api.Mapped{Page: 4, Frame: 4}, api.Mapped{Page: 5, Frame: 4})
	hasPages(t, m, 255, api.Mapped{Page: 4095, Frame: 0})
	removes(t, m, at(2, 4), 4)
	fine(t, m.Add(4, at(2, 4)))
	fails(t, m.Add(3, at(2, 5)), api.ErrTwice)
	fine(t, m.Move(4, 3))
	isSome(t, m)
	fine(t, m.Move(511, 510))
	fine(t, m.Move(0, 511))
	fine(t, m.Move(510, 0))
	hasFrame(t, m, at(255, 4095), 511)
	hasFrame(t, m, at(1, 0), 0)
	hasFrames(t, m, 0, 3, 511)
}

// P11.3: what moves to where something was has nothing of it.
func TestMoveAndAdd(t *testing.T) {
	m := some(t)
	fine(t, m.Move(3, 4))
	fine(t, m.Add(3, at(9, 9)))
	fine(t, m.Add(4, at(9, 8)))
	isOf(t, m, 3, at(9, 9))
	isOf(t, m, 4, at(1, 7), at(2, 4), at(2, 5), at(9, 8))
	removes(t, m, at(9, 9), 3)
	removes(t, m, at(9, 8), 4)
	isOf(t, m, 4, at(1, 7), at(2, 4), at(2, 5))
}

// P11.3, P11.2: all of none is none: no frame comes of it that nothing has.
func TestMoveNothing(t *testing.T) {
	m := some(t)
	fine(t, m.Move(5, 6))
	fine(t, m.Move(6, 5))
	isSome(t, m)
	isOf(t, m, 5)
	isOf(t, m, 6)
	fine(t, m.Add(6, at(1, 1)))
	removes(t, m, at(1, 1), 6)
	fine(t, m.Move(3, 6))
	fine(t, m.Move(6, 3))
	isSome(t, m)
}

// P11.4, R2: what is told may go its own ways, as far as its memory reaches.
func TestToldIsNew(t *testing.T) {
	m := some(t)
	removes(t, m, at(2, 4), 3)
	fine(t, m.Add(3, at(2, 4)))
	for range 2 {
		for _, f := range []int{0, 3, 511} {
			spare := m.Of(f)
			spare = spare[:cap(spare)]
			for i := range spare {
				spare[i] = at(200, 200)
			}
			spare = append(m.Of(f), at(201, 201))
			slices.Reverse(spare)
		}
		for _, s := range []int{1, 2, 255} {
			spare := m.Pages(s)
			spare = spare[:cap(spare)]
			for i := range spare {
				spare[i] = api.Mapped{Page: 77, Frame: 77}
			}
		}
		spare := m.Frames()
		spare = spare[:cap(spare)]
		for i := range spare {
			spare[i] = 77
		}
		isSome(t, m)
	}
	of, pages, frames := m.Of(3), m.Pages(2), m.Frames()
	removes(t, m, at(1, 7), 3)
	fine(t, m.Add(2, at(1, 7)))
	fine(t, m.Move(3, 4))
	removes(t, m, at(2, 4), 4)
	if !slices.Equal(of, []api.Where{at(1, 7), at(2, 4), at(2, 5)}) ||
		!slices.Equal(pages, []api.Mapped{{Page: 4, Frame: 3}, {Page: 5, Frame: 3}}) || !slices.Equal(frames, []int{0, 3, 511}) {
		t.Error("what was told follows the map")
	}
}

// P11.4
func TestClone(t *testing.T) {
	isSome(t, some(t).Clone())
	isSome(t, some(t).Clone().Clone())
	m := rmap.New().Clone()
	hasFrames(t, m)
	fine(t, m.Add(1, at(1, 1)))
	isOf(t, m, 1, at(1, 1))
}

// P11.4: neither follows the other one.
func TestCloneGoesItsOwnWay(t *testing.T) {
	ways := []func(*rmap.Map){
		func(m *rmap.Map) { removes(t, m, at(1, 7), 3) },
		func(m *rmap.Map) { removes(t, m, at(255, 4095), 0) },
		func(m *rmap.Map) { fine(t, m.Add(3, at(1, 1))) },
		func(m *rmap.Map) { fine(t, m.Add(4, at(3, 3))) },
		func(m *rmap.Map) { fine(t, m.Move(3, 4)) },
		func(m *rmap.Map) { fine(t, m.Add(3, at(2, 3))); removes(t, m, at(2, 4), 3) },
	}
	for _, way := range ways {
		for _, cloneMoves := range []bool{false, true} {
			stays := some(t)
			moves := stays.Clone()
			if !cloneMoves {
				stays, moves = moves, stays
			}
			way(moves)
			isSome(t, stays)
			for _, other := range ways[2:4] {
				other(stays)
			}
			isOf(t, stays, 3, at(1, 1), at(1, 7), at(2, 4), at(2, 5))
		}
	}
}

// P1: no call panics, whatever it is given.
func TestAllArguments(t *testing.T) {
	m := some(t)
	for _, a := range oddNumbers {
		for _, b := range oddNumbers {
			for _, c := range oddNumbers {
				m.Add(a, at(b, c))
			}
			m.Move(a, b)
			m.Frame(at(a, b))
			m.Remove(at(a, b))
		}
		m.Of(a)
		m.Count(a)
		m.Pages(a)
		m.Frames()
	}
	m.Clone().Frames()
}

// world is what long runs of calls are done to, a model beside it, and with which numbers.
type world struct {
	m                     *rmap.Map
	want                  model
	frames, spaces, pages []int
}

// P11.1 to P11.5: long runs of calls, each held against the model. Clones take the map's place, or stay behind and are held
// against what it was.
func TestManyCalls(t *testing.T) {
	r := rand.New(rand.NewSource(11))
	errs := map[error]int{}
	for round := range 60 {
		w := &world{m: rmap.New(), spaces: []int{1, 2, 9, 255, 0, 256}, pages: []int{0, 1, 7, 8, 4095, -1, 4096}}
		w.frames = [][]int{{0, 1, 2, 511, -1, 512}, {0, 3, 4, 5, 6, 7, 8, 9, 10, 511, 512}, {7, 8, 9}}[round%3]
		var behind *rmap.Map
		var was model
		for k := range 300 {
			errs[w.call(t, r)]++
			tells(t, w.m, w.want, w.frames, w.spaces, w.pages)
			if k%100 == 50 {
				behind, was = w.m.Clone(), slices.Clone(w.want)
				if r.Intn(2) == 0 {
					behind, w.m = w.m, behind
				}
			}
		}
		tells(t, behind, was, w.frames, w.spaces, w.pages)
		w.each(t)
	}
	for _, err := range []error{nil, api.ErrArg, api.ErrNone, api.ErrTwice, api.ErrState} {
		if errs[err] < 100 {
			t.Error("too few of one kind", errs)
		}
	}
}

// each holds P11.5: of all frames together, each page that has one is told once.
func (w *world) each(t *testing.T) {
	t.Helper()
	var all []api.Where
	n := 0
	for f := range 512 {
		all = append(all, w.m.Of(f)...)
		n += w.m.Count(f)
	}
	if len(all) != len(w.want) || n != len(w.want) {
		t.Fatal(len(all), n, len(w.want))
	}
	for _, e := range w.want {
		if !slices.Contains(all, e.w) {
			t.Fatal("not told of", e)
		}
	}
}

// call does one thing to the map and to the model, and holds the answers against each other.
func (w *world) call(t *testing.T, r *rand.Rand) error {
	t.Helper()
	one := func(l []int) int { return l[r.Intn(len(l))] }
	f, p := one(w.frames), at(one(w.spaces), one(w.pages))
	var got, frame int
	var err, want error
	switch kind := r.Intn(10); {
	case kind < 5:
		err, want = w.m.Add(f, p), w.want.add(f, p)
	case kind < 8:
		got, err = w.m.Remove(p)
		frame, want = w.want.remove(p)
	default:
		to := one(w.frames)
		err, want = w.m.Move(f, to), w.want.move(f, to)
	}
	if got != frame {
		t.Fatalf("%d, want %d", got, frame)
	}
	fails(t, err, want)
	return err
}
