package zone_test

import (
	"math"
	"math/rand"
	"slices"
	"testing"

	"pavior/api"
	"pavior/buddy"
	"pavior/zone"
)

var (
	oddNumbers = []int{
		math.MinInt, math.MinInt + 1, -1 << 40, -512, -8, -1, 0, 1, 2, 3, 4, 5, 6, 7, 8, 9, 12, 13, 16, 24, 32, 63, 64, 65,
		504, 511, 512, 513, 1 << 20, 1 << 32, 1<<40 + 8, 1 << 60, 1 << 61, math.MaxInt - 7, math.MaxInt - 1, math.MaxInt,
	}
	noSorts  = []int{math.MinInt, -2, -1, 2, 3, 64, 1 << 32, math.MaxInt}
	noOrders = []int{math.MinInt, -64, -1, 4, 5, 6, 63, 64, 1 << 32, math.MaxInt}
)

// model holds the sorts and the groups that are closed beside a store; the rooms follow from the frames that are free.
type model struct {
	frames int
	store  *buddy.Store
	sorts  []int
	closed map[int]bool
}

// room is one of a group: its order and its first frame.
type room struct{ group, order, first int }

func newModel(t *testing.T, frames int) *model {
	t.Helper()
	s, err := buddy.New(frames)
	fine(t, err)
	m := &model{frames: frames, store: s, closed: map[int]bool{}}
	for f := 0; f < frames; f += 8 {
		m.sorts = append(m.sorts, api.SortMovable)
	}
	return m
}

func (m *model) clone() *model {
	closed := map[int]bool{}
	for g := range m.closed {
		closed[g] = true
	}
	return &model{frames: m.frames, store: m.store.Clone(), sorts: slices.Clone(m.sorts), closed: closed}
}

func (m *model) hasGroup(g int) bool { return g >= 0 && g < len(m.sorts) }

func (m *model) isFree(from, to int) bool {
	for f := from; f < to; f++ {
		if !m.store.IsFree(f) {
			return false
		}
	}
	return true
}

// rooms are all that are in groups that aren't closed, by rising frames.
func (m *model) rooms() []room {
	var list []room
	for f := 0; f < m.frames; {
		order := 3
		for order >= 0 && (f%(1<<order) != 0 || !m.isFree(f, f+1<<order)) {
			order--
		}
		if order < 0 {
			f++
			continue
		}
		if !m.closed[f/8] {
			list = append(list, room{f / 8, order, f})
		}
		f += 1 << order
	}
	return list
}

// best is the first room in an order of theirs.
func best(list []room, ahead func(a, b room) int) (room, bool) {
	if len(list) == 0 {
		return room{}, false
	}
	slices.SortStableFunc(list, ahead)
	return list[0], true
}

func (m *model) take(t *testing.T, sort, order int) (int, error) {
	if sort != 0 && sort != 1 || order < 0 || order > 3 {
		return 0, api.ErrArg
	}
	enough := slices.DeleteFunc(m.rooms(), func(r room) bool { return r.order < order })
	own := slices.DeleteFunc(slices.Clone(enough), func(r room) bool { return m.sorts[r.group] != sort })
	r, is := best(own, func(a, b room) int { return a.order - b.order })
	if !is {
		r, is = best(enough, func(a, b room) int { return b.order - a.order })
	}
	if !is {
		return 0, api.ErrFull
	}
	fine(t, m.store.TakeAt(r.first, order))
	m.sorts[r.group] = sort
	return r.first, nil
}

func (m *model) takeAt(frame, order int) error {
	if order > 3 {
		return api.ErrArg
	}
	return m.store.TakeAt(frame, order)
}

func (m *model) give(frame, order int) error {
	if order > 3 {
		return api.ErrArg
	}
	return m.store.Give(frame, order)
}

func (m *model) close(g int) error {
	if !m.hasGroup(g) {
		return api.ErrArg
	}
	if m.closed[g] {
		return api.ErrState
	}
	m.closed[g] = true
	return nil
}

func (m *model) open(g int) error {
	if !m.hasGroup(g) {
		return api.ErrArg
	}
	if !m.closed[g] {
		return api.ErrState
	}
	delete(m.closed, g)
	if m.isFree(g*8, min(g*8+8, m.frames)) {
		m.sorts[g] = api.SortMovable
	}
	return nil
}

func made(t *testing.T, frames int) *zone.Zone {
	t.Helper()
	z, err := zone.New(frames)
	if err != nil || z == nil {
		t.Fatalf("New(%d): %v, %v", frames, z, err)
	}
	return z
}

// stands holds all that a zone tells against a model.
func stands(t *testing.T, z *zone.Zone, m *model) {
	t.Helper()
	isFreeIn(t, z, m.store.Free()...)
	for f := -1; f <= m.frames; f++ {
		if z.IsFree(f) != m.store.IsFree(f) {
			t.Fatalf("IsFree(%d) is %v", f, z.IsFree(f))
		}
	}
	isOfSorts(t, z, m.sorts...)
	for g := -1; g <= len(m.sorts); g++ {
		if z.Closed(g) != m.closed[g] {
			t.Fatalf("Closed(%d) is %v", g, z.Closed(g))
		}
	}
}

func isFreeIn(t *testing.T, z *zone.Zone, want ...api.Run) {
	t.Helper()
	if got := z.Free(); !slices.Equal(got, want) {
		t.Fatalf("free are %v, want %v", got, want)
	}
}

func isOfSorts(t *testing.T, z *zone.Zone, want ...int) {
	t.Helper()
	if z.Groups() != len(want) {
		t.Fatalf("%d groups, want %d", z.Groups(), len(want))
	}
	for g, sort := range want {
		if got, err := z.Sort(g); err != nil || got != sort {
			t.Fatalf("Sort(%d): %d, %v, want %d", g, got, err, sort)
		}
	}
}

func run(first, order int) api.Run { return api.Run{First: first, Order: order} }

func taken(t *testing.T, z *zone.Zone, sort, order, want int) {
	t.Helper()
	if got, err := z.Take(sort, order); err != nil || got != want {
		t.Fatalf("Take(%d, %d): %d, %v, want %d", sort, order, got, err, want)
	}
}

func notTaken(t *testing.T, z *zone.Zone, sort, order int, want error) {
	t.Helper()
	if got, err := z.Take(sort, order); got != 0 || err != want {
		t.Fatalf("Take(%d, %d): %d, %v, want %v", sort, order, got, err, want)
	}
}

func fine(t *testing.T, err error) {
	t.Helper()
	if err != nil {
		t.Fatal(err)
	}
}

// P8.1
func TestNewOfAllSizes(t *testing.T) {
	for frames := 1; frames <= 512; frames++ {
		stands(t, made(t, frames), newModel(t, frames))
	}
	for _, c := range []struct{ frames, groups int }{{1, 1}, {7, 1}, {8, 1}, {9, 2}, {16, 2}, {17, 3}, {511, 64}, {512, 64}} {
		if got := made(t, c.frames).Groups(); got != c.groups {
			t.Errorf("%d frames: %d groups", c.frames, got)
		}
	}
	isFreeIn(t, made(t, 107), run(0, 5), run(32, 5), run(64, 5), run(96, 3), run(104, 1), run(106, 0))
}

// P8.1
func TestNewThatMayNotBe(t *testing.T) {
	for _, frames := range oddNumbers {
		if frames >= 1 && frames <= 512 {
			continue
		}
		if z, err := zone.New(frames); z != nil || err != api.ErrArg {
			t.Errorf("New(%d): %v, %v", frames, z, err)
		}
	}
}

// P8.1, P8.4: groups that aren't there.
func TestNoSuchGroup(t *testing.T) {
	for _, frames := range []int{1, 8, 12, 24, 100, 512} {
		z, m := made(t, frames), newModel(t, frames)
		for _, g := range append(oddNumbers, z.Groups(), z.Groups()+1) {
			if m.hasGroup(g) {
				continue
			}
			if sort, err := z.Sort(g); sort != 0 || err != api.ErrArg {
				t.Errorf("%d frames: Sort(%d): %d, %v", frames, g, sort, err)
			}
			if z.Closed(g) {
				t.Errorf("%d frames: Closed(%d)", frames, g)
			}
			if err := z.Close(g); err != api.ErrArg || z.Closed(g) {
				t.Errorf("%d frames: Close(%d): %v", frames, g, err)
			}
			if err := z.Open(g); err != api.ErrArg {
				t.Errorf("%d frames: Open(%d): %v", frames, g, err)
			}
		}
		stands(t, z, m)
	}
}

// P8.1: a frame that isn't there isn't free.
func TestIsFreeOfNone(t *testing.T) {
	for _, frames := range []int{1, 12, 512} {
		z := made(t, frames)
		for _, f := range append(oddNumbers, frames-1, frames) {
			if want := f >= 0 && f < frames; z.IsFree(f) != want {
				t.Errorf("%d frames: IsFree(%d) is %v", frames, f, !want)
			}
		}
	}
}

// The chapter's example.
func TestExample(t *testing.T) {
	z := made(t, 24)
	taken(t, z, api.SortFixed, 0, 0)
	isOfSorts(t, z, api.SortFixed, api.SortMovable, api.SortMovable)
	taken(t, z, api.SortMovable, 0, 8)
}

// P8.2: of the sort's own groups the least room that is enough goes ahead of lower frames, lower frames ahead of others of
// that order.
func TestTakeLeastOfOwn(t *testing.T) {
	z := made(t, 40)
	for _, b := range []api.Run{run(0, 1), run(11, 0), run(18, 1), run(22, 1), run(24, 0)} {
		fine(t, z.TakeAt(b.First, b.Order))
	}
	isFreeIn(t, z, run(2, 1), run(4, 2), run(8, 1), run(10, 0), run(12, 2), run(16, 1), run(20, 1),
		run(25, 0), run(26, 1), run(28, 2), run(32, 3))
	for _, c := range []struct{ order, want int }{
		{0, 10}, {0, 25}, {0, 2}, {0, 3}, {1, 8}, {1, 16}, {2, 4}, {1, 20}, {0, 26}, {0, 27}, {1, 12}, {1, 14}, {2, 28}, {3, 32},
	} {
		taken(t, z, api.SortMovable, c.order, c.want)
	}
	isFreeIn(t, z)
	isOfSorts(t, z, 1, 1, 1, 1, 1)
}

// P8.2: of a room the first frames are taken.
func TestTakeFirstOfRoom(t *testing.T) {
	for order := range 4 {
		z := made(t, 8)
		taken(t, z, api.SortMovable, order, 0)
		isFreeIn(t, z, []api.Run{run(1, 0), run(2, 1), run(4, 2)}[min(order, 3):]...)
	}
}

// P8.2: a block greater than a group is a room of each of its groups, and none greater than others.
func TestTakeOfGreaterBlocks(t *testing.T) {
	z := made(t, 72)
	taken(t, z, api.SortMovable, 3, 0)
	isFreeIn(t, z, run(8, 3), run(16, 4), run(32, 5), run(64, 3))
	taken(t, z, api.SortFixed, 0, 8)
	taken(t, z, api.SortMovable, 0, 16)
	taken(t, z, api.SortMovable, 2, 20)
	taken(t, z, api.SortMovable, 3, 24)
	isFreeIn(t, z, run(9, 0), run(10, 1), run(12, 2), run(17, 0), run(18, 1), run(32, 5), run(64, 3))
	for g := 3; g < 8; g++ {
		fine(t, z.Close(g))
	}
	taken(t, z, api.SortFixed, 3, 64)
	isOfSorts(t, z, 1, 0, 1, 1, 1, 1, 1, 1, 0)
	isFreeIn(t, z, run(9, 0), run(10, 1), run(12, 2), run(17, 0), run(18, 1), run(32, 5))
}

// P8.2: without a room of its own, the greatest room of all, of these the lowest; that group alone changes its sort.
func TestTakeGreatestOfOthers(t *testing.T) {
	z := made(t, 44)
	for _, b := range []api.Run{run(0, 2), run(8, 1), run(32, 0)} {
		fine(t, z.TakeAt(b.First, b.Order))
	}
	taken(t, z, api.SortFixed, 0, 16)
	isOfSorts(t, z, 1, 1, 0, 1, 1, 1)
	taken(t, z, api.SortFixed, 2, 20)
	taken(t, z, api.SortFixed, 2, 24)
	isOfSorts(t, z, 1, 1, 0, 0, 1, 1)
	taken(t, z, api.SortFixed, 2, 28)
	isFreeIn(t, z, run(4, 2), run(10, 1), run(12, 2), run(17, 0), run(18, 1), run(33, 0), run(34, 1), run(36, 2), run(40, 2))
	taken(t, z, api.SortFixed, 2, 4)
	isOfSorts(t, z, 0, 1, 0, 0, 1, 1)
	taken(t, z, api.SortFixed, 2, 12)
	isOfSorts(t, z, 0, 0, 0, 0, 1, 1)
	taken(t, z, api.SortFixed, 1, 10)
	taken(t, z, api.SortFixed, 1, 18)
	taken(t, z, api.SortFixed, 1, 36)
	isOfSorts(t, z, 0, 0, 0, 0, 0, 1)
	isFreeIn(t, z, run(17, 0), run(33, 0), run(34, 1), run(38, 1), run(40, 2))
}

// P8.2: the least room of its own, though it be greater than those of other groups.
func TestTakeOwnAheadOfOthers(t *testing.T) {
	z := made(t, 16)
	taken(t, z, api.SortFixed, 0, 0)
	taken(t, z, api.SortMovable, 0, 8)
	fine(t, z.Give(0, 0))
	isFreeIn(t, z, run(0, 3), run(9, 0), run(10, 1), run(12, 2))
	taken(t, z, api.SortFixed, 0, 0)
	taken(t, z, api.SortMovable, 2, 12)
	taken(t, z, api.SortFixed, 2, 4)
	isOfSorts(t, z, api.SortFixed, api.SortMovable)
}

// P8.2: the last group, which has fewer frames, is taken from too.
func TestTakeOfLastGroup(t *testing.T) {
	z := made(t, 11)
	taken(t, z, api.SortMovable, 0, 10)
	taken(t, z, api.SortMovable, 1, 8)
	taken(t, z, api.SortFixed, 0, 0)
	notTaken(t, z, api.SortMovable, 3, api.ErrFull)
	taken(t, z, api.SortMovable, 0, 4)
	isOfSorts(t, z, api.SortMovable, api.SortMovable)
	z = made(t, 1)
	notTaken(t, z, api.SortFixed, 1, api.ErrFull)
	isOfSorts(t, z, api.SortMovable)
	taken(t, z, api.SortFixed, 0, 0)
	isOfSorts(t, z, api.SortFixed)
	isFreeIn(t, z)
}

// P8.2: where there is no block, no group changes its sort.
func TestTakeFull(t *testing.T) {
	z, m := made(t, 32), newModel(t, 32)
	for f := 0; f < 32; f += 4 {
		fine(t, z.TakeAt(f, 0))
		fine(t, m.takeAt(f, 0))
	}
	for _, sort := range []int{api.SortFixed, api.SortMovable} {
		notTaken(t, z, sort, 2, api.ErrFull)
		notTaken(t, z, sort, 3, api.ErrFull)
	}
	stands(t, z, m)
	fine(t, z.TakeAt(2, 1))
	taken(t, z, api.SortFixed, 1, 6)
	for _, b := range []api.Run{run(1, 0), run(5, 0)} {
		fine(t, z.TakeAt(b.First, b.Order))
	}
	for f := 8; f < 32; f += 4 {
		fine(t, z.TakeAt(f+1, 0))
		fine(t, z.TakeAt(f+2, 1))
	}
	isFreeIn(t, z)
	for order := range 4 {
		notTaken(t, z, api.SortFixed, order, api.ErrFull)
		notTaken(t, z, api.SortMovable, order, api.ErrFull)
	}
	isOfSorts(t, z, 0, 1, 1, 1)
}

// P8.2: a sort or an order that isn't there is told ahead of there being no block.
func TestTakeOfNoSuch(t *testing.T) {
	z, m, none := made(t, 64), newModel(t, 64), made(t, 64)
	for g := range 8 {
		fine(t, none.TakeAt(g*8, 3))
	}
	for _, z := range []*zone.Zone{z, none} {
		for _, sort := range noSorts {
			for _, order := range append(noOrders, 0, 3) {
				notTaken(t, z, sort, order, api.ErrArg)
			}
		}
		for _, order := range noOrders {
			notTaken(t, z, api.SortFixed, order, api.ErrArg)
			notTaken(t, z, api.SortMovable, order, api.ErrArg)
		}
	}
	stands(t, z, m)
	isFreeIn(t, none)
}

// P8.3: as the store does, at all arguments; but that orders above a group's may not be.
func TestTakeAtAndGive(t *testing.T) {
	for _, frames := range []int{1, 12, 33, 64, 512} {
		z, m := made(t, frames), newModel(t, frames)
		fine(t, z.TakeAt(0, 0))
		fine(t, m.takeAt(0, 0))
		for _, order := range append(noOrders, 0, 1, 2, 3) {
			for _, f := range append(oddNumbers, 10, 20, 40) {
				wantErr := m.takeAt(f, order)
				if err := z.TakeAt(f, order); err != wantErr {
					t.Fatalf("%d frames: TakeAt(%d, %d): %v, want %v", frames, f, order, err, wantErr)
				}
				stands(t, z, m)
				wantErr = m.give(f, order)
				if err := z.Give(f, order); err != wantErr {
					t.Fatalf("%d frames: Give(%d, %d): %v, want %v", frames, f, order, err, wantErr)
				}
				stands(t, z, m)
			}
		}
	}
}

// P8.3: orders that the store has, but a group hasn't, whether the frames are free or not.
func TestOrdersAboveGroups(t *testing.T) {
	z := made(t, 64)
	for _, order := range []int{4, 5} {
		if at, give := z.TakeAt(0, order), z.Give(0, order); at != api.ErrArg || give != api.ErrArg {
			t.Error(order, at, give)
		}
	}
	for g := range 8 {
		fine(t, z.TakeAt(g*8, 3))
	}
	for _, order := range []int{4, 5} {
		if at, give := z.TakeAt(32, order), z.Give(32, order); at != api.ErrArg || give != api.ErrArg {
			t.Error(order, at, give)
		}
	}
	isFreeIn(t, z)
}

// P8.3: a group's sort, and whether it is closed, matters to neither, and neither changes it.
func TestTakeAtOfClosed(t *testing.T) {
	z := made(t, 24)
	taken(t, z, api.SortFixed, 0, 0)
	fine(t, z.Close(0))
	fine(t, z.Close(1))
	fine(t, z.TakeAt(4, 2))
	fine(t, z.TakeAt(8, 3))
	fine(t, z.Give(0, 0))
	fine(t, z.Give(10, 0))
	isFreeIn(t, z, run(0, 2), run(10, 0), run(16, 3))
	fine(t, z.Give(4, 2))
	isFreeIn(t, z, run(0, 3), run(10, 0), run(16, 3))
	isOfSorts(t, z, api.SortFixed, api.SortMovable, api.SortMovable)
	for g, want := range []bool{true, true, false} {
		if z.Closed(g) != want {
			t.Error(g)
		}
	}
	if err := z.TakeAt(9, 0); err != api.ErrState {
		t.Error(err)
	}
	if err := z.Give(10, 0); err != api.ErrState {
		t.Error(err)
	}
}

// P8.4
func TestCloseAndOpen(t *testing.T) {
	z, m := made(t, 28), newModel(t, 28)
	for g := range 4 {
		if err := z.Open(g); err != api.ErrState {
			t.Errorf("Open(%d) of an open one: %v", g, err)
		}
		for i := range 2 {
			err, want := z.Close(g), m.close(g)
			if err != want || (i == 0) != (err == nil) || i == 1 && err != api.ErrState {
				t.Errorf("Close(%d): %v, want %v", g, err, want)
			}
			stands(t, z, m)
		}
	}
	for _, g := range []int{2, 0, 3, 1} {
		for i := range 2 {
			err, want := z.Open(g), m.open(g)
			if err != want || (i == 0) != (err == nil) || i == 1 && err != api.ErrState {
				t.Errorf("Open(%d): %v, want %v", g, err, want)
			}
			stands(t, z, m)
		}
	}
}

// P8.4: a group that is opened becomes SortMovable, if none of its frames is taken, wherever that one lies; nothing else
// makes it that.
func TestOpenedBecomesMovable(t *testing.T) {
	for _, c := range []struct{ frames, group, size int }{{24, 0, 8}, {24, 1, 8}, {24, 2, 8}, {21, 2, 5}, {17, 2, 1}} {
		for i := range c.size {
			z := fixedGroup(t, c.frames, c.group)
			f := c.group*8 + i
			fine(t, z.TakeAt(f, 0))
			sortIs(t, z, c.group, api.SortFixed)
			fine(t, z.Close(c.group))
			fine(t, z.Open(c.group))
			sortIs(t, z, c.group, api.SortFixed)
			fine(t, z.Close(c.group))
			fine(t, z.Give(f, 0))
			sortIs(t, z, c.group, api.SortFixed)
			fine(t, z.Open(c.group))
			sortIs(t, z, c.group, api.SortMovable)
		}
	}
}

// P8.4: frames that are taken in other groups don't matter.
func TestOpenedBesideTaken(t *testing.T) {
	z := fixedGroup(t, 24, 1)
	fine(t, z.TakeAt(7, 0))
	fine(t, z.TakeAt(16, 0))
	fine(t, z.Close(1))
	fine(t, z.Open(1))
	sortIs(t, z, 1, api.SortMovable)
}

// P8.4: one that became SortFixed while another one was closed stays so when that one is opened.
func TestOpenedAlone(t *testing.T) {
	z := fixedGroup(t, 24, 0)
	fine(t, z.Close(1))
	fine(t, z.Open(1))
	isOfSorts(t, z, api.SortFixed, api.SortMovable, api.SortMovable)
}

// fixedGroup is a zone all of whose frames are free, and one group of which is SortFixed.
func fixedGroup(t *testing.T, frames, group int) *zone.Zone {
	t.Helper()
	z := made(t, frames)
	for g := range z.Groups() {
		if g != group {
			fine(t, z.Close(g))
		}
	}
	taken(t, z, api.SortFixed, 0, group*8)
	fine(t, z.Give(group*8, 0))
	for g := range z.Groups() {
		if g != group {
			fine(t, z.Open(g))
		}
	}
	sortIs(t, z, group, api.SortFixed)
	return z
}

func sortIs(t *testing.T, z *zone.Zone, group, want int) {
	t.Helper()
	if got, err := z.Sort(group); err != nil || got != want {
		t.Fatalf("Sort(%d): %d, %v, want %d", group, got, err, want)
	}
}

// P8.6: nothing is taken of a closed group, be it the only one, of the sort asked for, or not.
func TestNothingOfClosed(t *testing.T) {
	z := made(t, 24)
	fine(t, z.Close(0))
	taken(t, z, api.SortMovable, 0, 8)
	taken(t, z, api.SortFixed, 0, 16)
	fine(t, z.Close(2))
	taken(t, z, api.SortFixed, 0, 12)
	isOfSorts(t, z, api.SortMovable, api.SortFixed, api.SortFixed)
	fine(t, z.Close(1))
	for order := range 4 {
		notTaken(t, z, api.SortFixed, order, api.ErrFull)
		notTaken(t, z, api.SortMovable, order, api.ErrFull)
	}
	fine(t, z.Open(2))
	isOfSorts(t, z, api.SortMovable, api.SortFixed, api.SortFixed)
	taken(t, z, api.SortMovable, 2, 20)
	isOfSorts(t, z, api.SortMovable, api.SortFixed, api.SortMovable)
}

// P8.5
func TestClone(t *testing.T) {
	z, m := made(t, 44), newModel(t, 44)
	taken(t, z, api.SortFixed, 1, 0)
	fine(t, z.Close(3))
	m.take(t, api.SortFixed, 1)
	m.close(3)
	c, n := z.Clone(), m.clone()
	stands(t, c, n)
	taken(t, z, api.SortFixed, 3, 8)
	m.take(t, api.SortFixed, 3)
	fine(t, z.Close(0))
	m.close(0)
	fine(t, z.Open(3))
	m.open(3)
	stands(t, z, m)
	stands(t, c, n)
	fine(t, c.TakeAt(43, 0))
	n.takeAt(43, 0)
	fine(t, c.Close(5))
	n.close(5)
	taken(t, c, api.SortFixed, 3, 8)
	n.take(t, api.SortFixed, 3)
	fine(t, c.Give(0, 1))
	n.give(0, 1)
	stands(t, c, n)
	stands(t, z, m)
}

// P8.5, R2: what is told is no part of the zone.
func TestToldIsNew(t *testing.T) {
	z, m := made(t, 107), newModel(t, 107)
	told, again := z.Free(), z.Free()
	for i := range told {
		told[i] = run(-1, 9)
	}
	_ = append(told[:0], run(3, 3))
	stands(t, z, m)
	if !slices.Equal(again, m.store.Free()) {
		t.Error("two answers share memory")
	}
	fine(t, z.TakeAt(106, 0))
	if !slices.Equal(again, m.store.Free()) {
		t.Error("an answer changes with the zone")
	}
}

// P8.2 to P8.6: many zones, each held against the model after every call; then all is given back.
func TestManyCalls(t *testing.T) {
	r := rand.New(rand.NewSource(8))
	errs := map[error]int{}
	for range 300 {
		frames := 1 + r.Intn([]int{16, 64, 200, 512}[r.Intn(4)])
		z, m := made(t, frames), newModel(t, frames)
		takes, orders := 2+r.Intn(6), 1+r.Intn(4)
		left, was := z.Clone(), m.clone()
		for range 80 {
			if r.Intn(20) == 0 {
				stands(t, left, was)
				left, was = z, m.clone()
				z = z.Clone()
			}
			errs[someCall(t, r, z, m, takes, orders)]++
			stands(t, z, m)
		}
		for _, f := range r.Perm(frames) {
			if !z.IsFree(f) {
				fine(t, z.Give(f, 0))
				fine(t, m.give(f, 0))
			}
		}
		stands(t, z, m)
		isFreeIn(t, z, newModel(t, frames).store.Free()...)
		stands(t, left, was)
	}
	for _, err := range []error{nil, api.ErrArg, api.ErrFull, api.ErrState} {
		if errs[err] < 300 {
			t.Error("too few of one kind", errs)
		}
	}
}

// someCall calls a zone and its model alike.
func someCall(t *testing.T, r *rand.Rand, z *zone.Zone, m *model, takes, orders int) error {
	t.Helper()
	order := r.Intn(orders)
	f := r.Intn(m.frames+1) >> order << order
	g := r.Intn(len(m.sorts) + 1)
	var err, want error
	switch kind := r.Intn(14); {
	case kind < takes:
		sort, got, wanted := r.Intn(2), 0, 0
		got, err = z.Take(sort, order)
		if wanted, want = m.take(t, sort, order); got != wanted {
			t.Fatalf("Take(%d, %d): %d, want %d", sort, order, got, wanted)
		}
	case kind < 8:
		err, want = z.TakeAt(f, order), m.takeAt(f, order)
	case kind < 11:
		err, want = z.Give(f, order), m.give(f, order)
	case kind < 12:
		err, want = z.Open(g), m.open(g)
	default:
		err, want = z.Close(g), m.close(g)
	}
	if err != want {
		t.Fatalf("%v, want %v", err, want)
	}
	return err
}

// P8.6, asked of what is told alone: what is taken was free, of no closed group, and of another sort's group only if no open
// one of the sort asked for has room; and then that group alone changes its sort.
func TestWhatFollows(t *testing.T) {
	r := rand.New(rand.NewSource(86))
	others := 0
	for range 200 {
		frames := 8 + r.Intn(200)
		z := made(t, frames)
		var held []api.Run
		for range 120 {
			if g := r.Intn(z.Groups()); r.Intn(3) == 0 && z.Close(g) != nil {
				fine(t, z.Open(g))
			}
			if i := r.Intn(len(held) + 1); r.Intn(3) == 0 && i < len(held) {
				fine(t, z.Give(held[i].First, held[i].Order))
				held = slices.Delete(held, i, i+1)
			}
			sort, order := r.Intn(2), r.Intn(4)
			before := z.Clone()
			f, err := z.Take(sort, order)
			if err != nil {
				if err != api.ErrFull || hasRoom(before, 0, order) || hasRoom(before, 1, order) {
					t.Fatal(err)
				}
				continue
			}
			if isOther(t, before, z, f, sort, order) {
				others++
			}
			held = append(held, run(f, order))
		}
		for _, b := range held {
			fine(t, z.Give(b.First, b.Order))
		}
		isFreeIn(t, z, made(t, frames).Free()...)
	}
	if others < 300 {
		t.Error("too few groups that change their sort", others)
	}
}

// hasRoom tells whether an open group of a sort has one that is enough.
func hasRoom(z *zone.Zone, sort, order int) bool {
	for _, b := range z.Free() {
		for f := b.First; f < b.First+1<<b.Order; f++ {
			if is, _ := z.Sort(f / 8); is == sort && !z.Closed(f/8) && b.Order >= order {
				return true
			}
		}
	}
	return false
}

// isOther tells whether frames that were taken lie in a group that was of another sort, and holds what became of all groups
// against that.
func isOther(t *testing.T, before, z *zone.Zone, f, sort, order int) bool {
	t.Helper()
	for i := range 1 << order {
		if !before.IsFree(f+i) || z.IsFree(f+i) {
			t.Fatalf("%d of order %d was no block", f, order)
		}
	}
	was, _ := before.Sort(f / 8)
	if f%(1<<order) != 0 || z.Closed(f/8) || was != sort && hasRoom(before, sort, order) {
		t.Fatalf("%d of order %d is taken for %d", f, order, sort)
	}
	for g := range z.Groups() {
		left, _ := before.Sort(g)
		if g == f/8 {
			left = sort
		}
		sortIs(t, z, g, left)
		if z.Closed(g) != before.Closed(g) {
			t.Fatal("closed", g)
		}
	}
	return was != sort
}

// P1 of the whole.
func TestNoCallPanics(t *testing.T) {
	for _, frames := range []int{1, 33, 512} {
		z := made(t, frames)
		for _, a := range oddNumbers {
			for _, b := range oddNumbers {
				z.Take(a, b)
				z.TakeAt(a, b)
				z.Give(a, b)
			}
			z.Close(a)
			z.Sort(a)
			z.Closed(a)
			z.Open(a)
			z.IsFree(a)
			z.Clone()
			z.Free()
			z.Groups()
		}
	}
}
