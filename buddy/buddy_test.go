package buddy_test

import (
	"math"
	"math/rand"
	"slices"
	"testing"

	"pavior/api"
	"pavior/buddy"
)

var (
	oddNumbers = []int{
		math.MinInt, math.MinInt + 1, -1 << 40, -512, -32, -8, -1, 0, 1, 2, 3, 4, 5, 6, 7, 8, 12, 16, 31, 32, 33, 62, 63, 64, 65,
		480, 510, 511, 512, 513, 1 << 20, 1 << 32, 1<<40 + 32, math.MaxInt - 31, math.MaxInt - 1, math.MaxInt,
	}
	noOrders = []int{math.MinInt, -64, -1, 6, 7, 20, 63, 64, 1 << 32, math.MaxInt}
)

// model tells of each frame whether it is free; the blocks follow from that.
type model []bool

func newModel(frames int) model {
	m := make(model, frames)
	m.set(0, frames, true)
	return m
}

func (m model) set(from, to int, free bool) {
	for f := from; f < to; f++ {
		m[f] = free
	}
}

// all tells whether all of those frames are there, and are so.
func (m model) all(from, to int, free bool) bool {
	for f := from; f < to; f++ {
		if f >= len(m) || m[f] != free {
			return false
		}
	}
	return true
}

func (m model) count() int {
	n := 0
	for _, free := range m {
		if free {
			n++
		}
	}
	return n
}

// blocks are the greatest aligned ones that are free as a whole, from each frame on.
func (m model) blocks() []api.Run {
	var list []api.Run
	for f := 0; f < len(m); {
		size := 32
		for size > 0 && (f%size != 0 || !m.all(f, f+size, true)) {
			size /= 2
		}
		if size == 0 {
			f++
			continue
		}
		list = append(list, api.Run{First: f, Order: orderOf(size)})
		f += size
	}
	return list
}

func orderOf(size int) int {
	order := 0
	for ; size > 1; size /= 2 {
		order++
	}
	return order
}

func (m model) has(frame, order int) bool {
	if order < 0 || order > 5 || frame < 0 || frame >= len(m) {
		return false
	}
	size := 1 << order
	return frame%size == 0 && frame+size <= len(m)
}

func (m model) take(order int) (int, error) {
	if order < 0 || order > 5 {
		return 0, api.ErrArg
	}
	list := m.blocks()
	for enough := order; enough <= 5; enough++ {
		for _, b := range list {
			if b.Order == enough {
				m.set(b.First, b.First+1<<order, false)
				return b.First, nil
			}
		}
	}
	return 0, api.ErrFull
}

func (m model) takeAt(frame, order int) error { return m.turn(frame, order, true) }

func (m model) give(frame, order int) error { return m.turn(frame, order, false) }

// turn makes a block the other thing, if all of it is what is asked for.
func (m model) turn(frame, order int, free bool) error {
	if !m.has(frame, order) {
		return api.ErrArg
	}
	if !m.all(frame, frame+1<<order, free) {
		return api.ErrState
	}
	m.set(frame, frame+1<<order, !free)
	return nil
}

func store(t *testing.T, frames int) *buddy.Store {
	t.Helper()
	s, err := buddy.New(frames)
	if err != nil || s == nil {
		t.Fatalf("New(%d): %v, %v", frames, s, err)
	}
	return s
}

// stands holds all that a store tells against a model.
func stands(t *testing.T, s *buddy.Store, m model) {
	t.Helper()
	isFreeIn(t, s, m.blocks()...)
	if s.Count() != m.count() {
		t.Fatalf("Count is %d, want %d", s.Count(), m.count())
	}
	for f := range m {
		if s.IsFree(f) != m[f] {
			t.Fatalf("IsFree(%d) is %v", f, !m[f])
		}
	}
}

func isFreeIn(t *testing.T, s *buddy.Store, want ...api.Run) {
	t.Helper()
	if got := s.Free(); !slices.Equal(got, want) {
		t.Fatalf("free are %v, want %v", got, want)
	}
}

func run(first, order int) api.Run { return api.Run{First: first, Order: order} }

func taken(t *testing.T, s *buddy.Store, order, want int) {
	t.Helper()
	if got, err := s.Take(order); err != nil || got != want {
		t.Fatalf("Take(%d): %d, %v, want %d", order, got, err, want)
	}
}

func fine(t *testing.T, err error) {
	t.Helper()
	if err != nil {
		t.Fatal(err)
	}
}

// P7.1
func TestNew(t *testing.T) {
	for _, c := range []struct {
		frames int
		want   []api.Run
	}{
		{1, []api.Run{run(0, 0)}},
		{2, []api.Run{run(0, 1)}},
		{3, []api.Run{run(0, 1), run(2, 0)}},
		{12, []api.Run{run(0, 3), run(8, 2)}},
		{31, []api.Run{run(0, 4), run(16, 3), run(24, 2), run(28, 1), run(30, 0)}},
		{32, []api.Run{run(0, 5)}},
		{33, []api.Run{run(0, 5), run(32, 0)}},
		{64, []api.Run{run(0, 5), run(32, 5)}},
		{107, []api.Run{run(0, 5), run(32, 5), run(64, 5), run(96, 3), run(104, 1), run(106, 0)}},
	} {
		isFreeIn(t, store(t, c.frames), c.want...)
	}
	whole := store(t, 512).Free()
	if len(whole) != 16 {
		t.Error(whole)
	}
	for i, b := range whole {
		if b != run(i*32, 5) {
			t.Error(i, b)
		}
	}
}

// P7.1
func TestNewOfAllSizes(t *testing.T) {
	for frames := 1; frames <= 512; frames++ {
		stands(t, store(t, frames), newModel(frames))
	}
}

// P7.1
func TestNewThatMayNotBe(t *testing.T) {
	for _, frames := range oddNumbers {
		if frames >= 1 && frames <= 512 {
			continue
		}
		if s, err := buddy.New(frames); s != nil || err != api.ErrArg {
			t.Errorf("New(%d): %v, %v", frames, s, err)
		}
	}
}

// P7.1: a frame that isn't there isn't free.
func TestIsFreeOfNone(t *testing.T) {
	for _, frames := range []int{1, 5, 12, 32, 511, 512} {
		s := store(t, frames)
		for _, f := range oddNumbers {
			if want := f >= 0 && f < frames; s.IsFree(f) != want {
				t.Errorf("%d frames: IsFree(%d) is %v", frames, f, !want)
			}
		}
		if s.IsFree(frames) || s.IsFree(-1) || !s.IsFree(frames-1) {
			t.Errorf("%d frames: the edges", frames)
		}
	}
}

// P7.1: nothing is free.
func TestNoneFree(t *testing.T) {
	s := store(t, 32)
	taken(t, s, 5, 0)
	if len(s.Free()) != 0 || s.Count() != 0 {
		t.Error(s.Free(), s.Count())
	}
	for f := range 32 {
		if s.IsFree(f) {
			t.Error(f)
		}
	}
	for order := range 6 {
		if f, err := s.Take(order); f != 0 || err != api.ErrFull {
			t.Error(order, f, err)
		}
	}
	if c := s.Clone(); len(c.Free()) != 0 || c.Count() != 0 {
		t.Error(c.Free())
	}
	fine(t, s.Give(31, 0))
	isFreeIn(t, s, run(31, 0))
}

// The chapter's example.
func TestExample(t *testing.T) {
	s := store(t, 12)
	isFreeIn(t, s, run(0, 3), run(8, 2))
	taken(t, s, 1, 8)
	taken(t, s, 1, 10)
	isFreeIn(t, s, run(0, 3))
}

// P7.2: the second halves stay.
func TestTakeParts(t *testing.T) {
	all := []api.Run{run(1, 0), run(2, 1), run(4, 2), run(8, 3), run(16, 4)}
	for order := range 6 {
		s := store(t, 32)
		taken(t, s, order, 0)
		isFreeIn(t, s, all[order:]...)
		if s.Count() != 32-1<<order {
			t.Error(order, s.Count())
		}
	}
}

// P7.2: the least order that is enough goes ahead of lower frames, lower frames ahead of others of that order.
func TestTakeLeast(t *testing.T) {
	s := store(t, 64)
	for _, b := range []api.Run{run(0, 2), run(12, 1), run(20, 0), run(32, 0), run(48, 1)} {
		fine(t, s.TakeAt(b.First, b.Order))
	}
	isFreeIn(t, s, run(4, 2), run(8, 2), run(14, 1), run(16, 2), run(21, 0), run(22, 1), run(24, 3),
		run(33, 0), run(34, 1), run(36, 2), run(40, 3), run(50, 1), run(52, 2), run(56, 3))
	for _, c := range []struct{ order, want int }{
		{0, 21}, {0, 33}, {0, 14}, {0, 15}, {1, 22}, {1, 34}, {2, 4}, {2, 8}, {1, 50}, {1, 16}, {3, 24}, {2, 36}, {2, 52}, {2, 40}, {3, 56}, {1, 18}, {0, 44},
	} {
		taken(t, s, c.order, c.want)
	}
	isFreeIn(t, s, run(45, 0), run(46, 1))
}

// P7.2
func TestTakeFull(t *testing.T) {
	s := store(t, 31)
	if f, err := s.Take(5); f != 0 || err != api.ErrFull {
		t.Error(f, err)
	}
	stands(t, s, newModel(31))
	m := newModel(64) // half of it is free, but never two frames side by side
	s = store(t, 64)
	for f := 0; f < 64; f += 2 {
		fine(t, s.TakeAt(f, 0))
		fine(t, m.takeAt(f, 0))
	}
	for order := 1; order <= 5; order++ {
		if f, err := s.Take(order); f != 0 || err != api.ErrFull {
			t.Error(order, f, err)
		}
	}
	stands(t, s, m)
	for f := 1; f < 64; f += 2 {
		taken(t, s, 0, f)
	}
	if _, err := s.Take(0); err != api.ErrFull {
		t.Error(err)
	}
}

// P7.2: an order that isn't there is told ahead of there being no block.
func TestTakeOfNoOrder(t *testing.T) {
	s, none := store(t, 64), store(t, 32)
	taken(t, none, 5, 0)
	for _, order := range noOrders {
		for _, s := range []*buddy.Store{s, none} {
			if f, err := s.Take(order); f != 0 || err != api.ErrArg {
				t.Errorf("Take(%d): %d, %v", order, f, err)
			}
		}
	}
	stands(t, s, newModel(64))
}

// P7.3
func TestTakeAtParts(t *testing.T) {
	for _, c := range []struct {
		frames, frame, order int
		want                 []api.Run
	}{
		{32, 0, 5, nil},
		{32, 0, 0, []api.Run{run(1, 0), run(2, 1), run(4, 2), run(8, 3), run(16, 4)}},
		{32, 31, 0, []api.Run{run(0, 4), run(16, 3), run(24, 2), run(28, 1), run(30, 0)}},
		{32, 12, 2, []api.Run{run(0, 3), run(8, 2), run(16, 4)}},
		{32, 13, 0, []api.Run{run(0, 3), run(8, 2), run(12, 0), run(14, 1), run(16, 4)}},
		{32, 16, 4, []api.Run{run(0, 4)}},
		{64, 32, 5, []api.Run{run(0, 5)}},
		{64, 32, 3, []api.Run{run(0, 5), run(40, 3), run(48, 4)}},
		{12, 2, 1, []api.Run{run(0, 1), run(4, 2), run(8, 2)}},
		{12, 8, 2, []api.Run{run(0, 3)}},
		{11, 10, 0, []api.Run{run(0, 3), run(8, 1)}},
		{1, 0, 0, nil},
	} {
		s := store(t, c.frames)
		fine(t, s.TakeAt(c.frame, c.order))
		isFreeIn(t, s, c.want...)
	}
}

// P7.3, P7.4: each block of each size of a store, taken and given back.
func TestEachBlock(t *testing.T) {
	for _, frames := range []int{1, 2, 7, 12, 31, 32, 33, 63, 64, 96, 107} {
		s, m := store(t, frames), newModel(frames)
		for order := range 6 {
			for f := range frames {
				wantErr := m.takeAt(f, order)
				if err := s.TakeAt(f, order); err != wantErr {
					t.Fatalf("%d frames: TakeAt(%d, %d): %v, want %v", frames, f, order, err, wantErr)
				}
				stands(t, s, m)
				wantErr = m.give(f, order)
				if err := s.Give(f, order); err != wantErr {
					t.Fatalf("%d frames: Give(%d, %d): %v, want %v", frames, f, order, err, wantErr)
				}
				stands(t, s, m)
			}
		}
	}
}

// P7.3, P7.4: blocks that aren't there are told as such, whether their frames are free or not.
func TestNoSuchBlock(t *testing.T) {
	for _, frames := range []int{1, 12, 33, 512} {
		m, empty := newModel(frames), make(model, frames)
		full, none := store(t, frames), store(t, frames)
		for _, b := range m.blocks() {
			fine(t, none.TakeAt(b.First, b.Order))
		}
		for _, f := range oddNumbers {
			for _, order := range append(noOrders, 0, 1, 2, 3, 4, 5) {
				if m.has(f, order) {
					continue
				}
				for _, s := range []*buddy.Store{full, none} {
					if at, give := s.TakeAt(f, order), s.Give(f, order); at != api.ErrArg || give != api.ErrArg {
						t.Fatalf("%d frames: TakeAt(%d, %d) %v, Give %v", frames, f, order, at, give)
					}
				}
			}
		}
		stands(t, full, m)
		stands(t, none, empty)
	}
}

// P7.3, P7.4: one frame that is otherwise is enough, wherever it lies in the block.
func TestOneFrameOtherwise(t *testing.T) {
	for order := range 6 {
		for i := range 1 << order {
			s, m := store(t, 96), newModel(96)
			f := 32 + i
			fine(t, s.TakeAt(f, 0))
			fine(t, m.takeAt(f, 0))
			if err := s.TakeAt(32, order); err != api.ErrState {
				t.Fatalf("TakeAt(32, %d) without %d: %v", order, f, err)
			}
			stands(t, s, m)
			s = store(t, 96)
			fine(t, s.TakeAt(32, 5))
			m.set(32, 64, false)
			fine(t, s.Give(f, 0))
			fine(t, m.give(f, 0))
			if err := s.Give(32, order); err != api.ErrState {
				t.Fatalf("Give(32, %d) with %d free: %v", order, f, err)
			}
			stands(t, s, m)
		}
	}
}

// P7.4: what lies inside a greater free block is free too, and what is free isn't given again.
func TestGiveTwice(t *testing.T) {
	s := store(t, 64)
	for order := range 6 {
		for f := 0; f < 64; f += 1 << order {
			if err := s.Give(f, order); err != api.ErrState {
				t.Fatal(f, order, err)
			}
		}
	}
	stands(t, s, newModel(64))
	taken(t, s, 0, 0)
	fine(t, s.Give(0, 0))
	if err := s.Give(0, 0); err != api.ErrState {
		t.Error(err)
	}
	stands(t, s, newModel(64))
}

// P7.4: with its buddy, and no one else.
func TestGiveJoins(t *testing.T) {
	s := store(t, 64)
	taken(t, s, 5, 0)
	taken(t, s, 5, 32)
	for _, c := range []struct {
		given api.Run
		want  []api.Run
	}{
		{run(1, 0), []api.Run{run(1, 0)}},
		{run(2, 0), []api.Run{run(1, 0), run(2, 0)}},
		{run(4, 2), []api.Run{run(1, 0), run(2, 0), run(4, 2)}},
		{run(3, 0), []api.Run{run(1, 0), run(2, 1), run(4, 2)}},
		{run(16, 3), []api.Run{run(1, 0), run(2, 1), run(4, 2), run(16, 3)}},
		{run(8, 3), []api.Run{run(1, 0), run(2, 1), run(4, 2), run(8, 3), run(16, 3)}},
		{run(0, 0), []api.Run{run(0, 4), run(16, 3)}},
		{run(32, 4), []api.Run{run(0, 4), run(16, 3), run(32, 4)}},
		{run(24, 3), []api.Run{run(0, 5), run(32, 4)}},
		{run(48, 4), []api.Run{run(0, 5), run(32, 5)}},
	} {
		fine(t, s.Give(c.given.First, c.given.Order))
		isFreeIn(t, s, c.want...)
	}
}

// P7.4: a buddy that is only partly free, or only partly there, isn't one to join.
func TestGiveBesideLess(t *testing.T) {
	s := store(t, 13)
	taken(t, s, 0, 12)
	fine(t, s.TakeAt(0, 2))
	fine(t, s.TakeAt(8, 1))
	isFreeIn(t, s, run(4, 2), run(10, 1))
	fine(t, s.Give(12, 0))
	isFreeIn(t, s, run(4, 2), run(10, 1), run(12, 0))
	fine(t, s.Give(8, 0))
	isFreeIn(t, s, run(4, 2), run(8, 0), run(10, 1), run(12, 0))
	fine(t, s.Give(9, 0))
	isFreeIn(t, s, run(4, 2), run(8, 2), run(12, 0))
	fine(t, s.Give(0, 2))
	stands(t, s, newModel(13))
}

// P7.4, P7.6: frames are given in other pieces than they were taken in.
func TestGiveOtherwiseThanTaken(t *testing.T) {
	s := store(t, 64)
	taken(t, s, 3, 0)
	for f := 7; f >= 0; f-- {
		fine(t, s.Give(f, 0))
	}
	stands(t, s, newModel(64))
	for f := range 32 {
		taken(t, s, 0, f)
	}
	fine(t, s.Give(0, 5))
	stands(t, s, newModel(64))
}

// P7.5
func TestClone(t *testing.T) {
	s, m := store(t, 107), newModel(107)
	fine(t, s.TakeAt(40, 3))
	fine(t, m.takeAt(40, 3))
	c, n := s.Clone(), slices.Clone(m)
	stands(t, c, n)
	for _, order := range []int{0, 1, 5, 2, 0, 4} {
		f, err := s.Take(order)
		if want, wantErr := m.take(order); f != want || err != wantErr {
			t.Fatal(f, err)
		}
		stands(t, c, n)
	}
	fine(t, c.Give(40, 3))
	fine(t, n.give(40, 3))
	fine(t, c.TakeAt(106, 0))
	fine(t, n.takeAt(106, 0))
	stands(t, c, n)
	stands(t, s, m)
	if err := c.TakeAt(107, 0); err != api.ErrArg {
		t.Error("the clone has other frames", err)
	}
}

// P7.5, R2: what is told is no part of the store.
func TestToldIsNew(t *testing.T) {
	s := store(t, 107)
	told, again := s.Free(), s.Free()
	for i := range told {
		told[i] = run(-1, 9)
	}
	_ = append(told[:0], run(3, 3))
	stands(t, s, newModel(107))
	if !slices.Equal(again, newModel(107).blocks()) {
		t.Error("two answers share memory")
	}
	taken(t, s, 0, 106)
	if !slices.Equal(again, newModel(107).blocks()) {
		t.Error("an answer changes with the store")
	}
}

// invariants are P7.6's, asked of what is told alone.
func invariants(t *testing.T, s *buddy.Store, frames int) {
	t.Helper()
	list := s.Free()
	in, n := make([]int, frames), 0
	for i, b := range list {
		if b.Order < 0 || b.Order > 5 || b.First%(1<<b.Order) != 0 || i > 0 && list[i-1].First >= b.First {
			t.Fatal(list)
		}
		if b.Order < 5 && slices.Contains(list, run(b.First^(1<<b.Order), b.Order)) {
			t.Fatalf("%v and its buddy are free: %v", b, list)
		}
		for f := b.First; f < b.First+1<<b.Order; f++ {
			in[f]++
			n++
		}
	}
	for f, times := range in {
		if times > 1 || (times == 1) != s.IsFree(f) {
			t.Fatalf("%d is in %d of %v", f, times, list)
		}
	}
	if n != s.Count() {
		t.Fatalf("Count is %d, %d are told", s.Count(), n)
	}
}

// P7.2 to P7.6: many stores, each held against the model after every call; then all is given back.
func TestManyCalls(t *testing.T) {
	r := rand.New(rand.NewSource(7))
	errs := map[error]int{}
	for range 300 {
		frames := 1 + r.Intn([]int{16, 64, 200, 512}[r.Intn(4)])
		s, m := store(t, frames), newModel(frames)
		takes := 2 + r.Intn(6)
		left, was := s.Clone(), slices.Clone(m)
		for range 80 {
			if r.Intn(20) == 0 {
				stands(t, left, was)
				left, was = s, slices.Clone(m)
				s = s.Clone()
			}
			errs[someCall(t, r, s, m, takes)]++
			stands(t, s, m)
			invariants(t, s, frames)
		}
		giveAll(t, r, s, m)
		stands(t, s, newModel(frames))
		stands(t, left, was)
	}
	for _, err := range []error{nil, api.ErrArg, api.ErrFull, api.ErrState} {
		if errs[err] < 300 {
			t.Error("too few of one kind", errs)
		}
	}
}

// someCall calls a store and its model alike.
func someCall(t *testing.T, r *rand.Rand, s *buddy.Store, m model, takes int) error {
	order := min(r.Intn(7), r.Intn(7))
	f := r.Intn(len(m) + 1)
	if r.Intn(8) > 0 {
		f = f >> order << order
	}
	switch kind := r.Intn(10); {
	case kind < takes:
		got, err := s.Take(order)
		if want, wantErr := m.take(order); got != want || err != wantErr {
			t.Fatalf("Take(%d): %d, %v, want %d, %v", order, got, err, want, wantErr)
		}
		return err
	case kind == 7:
		err := s.TakeAt(f, order)
		if want := m.takeAt(f, order); err != want {
			t.Fatalf("TakeAt(%d, %d): %v, want %v", f, order, err, want)
		}
		return err
	default:
		err := s.Give(f, order)
		if want := m.give(f, order); err != want {
			t.Fatalf("Give(%d, %d): %v, want %v", f, order, err, want)
		}
		return err
	}
}

// giveAll gives what isn't free, in any order.
func giveAll(t *testing.T, r *rand.Rand, s *buddy.Store, m model) {
	t.Helper()
	for _, f := range r.Perm(len(m)) {
		if !m[f] {
			fine(t, s.Give(f, 0))
		}
	}
}

// P7.6: what is taken was free, and is aligned.
func TestTakenWasFree(t *testing.T) {
	r := rand.New(rand.NewSource(77))
	for range 200 {
		frames := 1 + r.Intn(512)
		s := store(t, frames)
		var held []api.Run
		for range 60 {
			order := r.Intn(6)
			before := s.Clone()
			f, err := s.Take(order)
			if err != nil {
				continue
			}
			if f%(1<<order) != 0 || s.Count() != before.Count()-1<<order {
				t.Fatal(f, order)
			}
			for i := f; i < f+1<<order; i++ {
				if !before.IsFree(i) || s.IsFree(i) {
					t.Fatal(f, order, i)
				}
			}
			held = append(held, run(f, order))
		}
		r.Shuffle(len(held), func(i, j int) { held[i], held[j] = held[j], held[i] })
		for _, b := range held {
			fine(t, s.Give(b.First, b.Order))
			invariants(t, s, frames)
		}
		stands(t, s, newModel(frames))
	}
}

// P1 of the whole.
func TestNoCallPanics(t *testing.T) {
	for _, frames := range []int{1, 33, 512} {
		s := store(t, frames)
		for _, a := range oddNumbers {
			for _, b := range oddNumbers {
				s.TakeAt(a, b)
				s.Give(a, b)
				invariants(t, s, frames)
			}
			s.Take(a)
			s.IsFree(a)
			s.Clone()
			invariants(t, s, frames)
		}
	}
}
