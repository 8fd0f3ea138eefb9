package walk_test

import (
	"math"
	"math/rand"
	"slices"
	"testing"

	"pavior/api"
	"pavior/phys"
	"pavior/pte"
	"pavior/walk"
)

var wrongPages = []int{-1, -4096, 4096, 4097, 1 << 32, math.MaxInt, math.MinInt}

func made(t *testing.T, frames int) *phys.Memory {
	t.Helper()
	m, err := phys.New(frames)
	if err != nil {
		t.Fatal(err)
	}
	return m
}

func store(t *testing.T, m *phys.Memory, table, place int, w uint64) {
	t.Helper()
	if err := m.Store(table, place, w); err != nil {
		t.Fatal(err)
	}
}

func put(t *testing.T, m *phys.Memory, table, place, level int, d api.Desc) {
	t.Helper()
	w, err := pte.Encode(level, d)
	if err != nil {
		t.Fatalf("%+v at level %d: %v", d, level, err)
	}
	store(t, m, table, place, w)
}

func table(frame int) api.Desc { return api.Desc{Kind: api.KindTable, Frame: frame} }
func page(frame int) api.Desc  { return api.Desc{Kind: api.KindPage, Frame: frame} }
func block(frame int) api.Desc { return api.Desc{Kind: api.KindBlock, Frame: frame} }

// digits is a page's places, told without a shift: eight to a digit.
func digits(page int) [4]int {
	return [4]int{page / 512, page / 64 % 8, page / 8 % 8, page % 8}
}

// lead lays tables from level 0 down to a level, one in each of the frames from 0 on, that lead to a page, and is the page's place in the last one.
func lead(t *testing.T, m *phys.Memory, page, level int) int {
	t.Helper()
	places := digits(page)
	for l := range level {
		put(t, m, l, places[l], l, table(l+1))
	}
	return places[level]
}

// expect is what the chapter's words say that a walk tells; false: it comes to a table that isn't there.
func expect(m *phys.Memory, root, page int) (api.Found, bool) {
	at := root
	for level, place := range digits(page) {
		if at >= m.Frames() {
			return api.Found{}, false
		}
		w, _ := m.Load(at, place)
		d, _ := pte.Decode(level, w)
		f := api.Found{Kind: d.Kind, Level: level, Table: at, Place: place}
		if d.Kind == api.KindBlock {
			f.Order, f.First, f.Base, f.Frame = 3, page/8*8, d.Frame, d.Frame+page%8
		}
		if d.Kind == api.KindPage {
			f.First, f.Base, f.Frame = page, d.Frame, d.Frame
		}
		if d.Kind == api.KindPage && d.Fold {
			f.Order, f.First, f.Base = 2, page/4*4, d.Frame-page%4
		}
		if d.Kind == api.KindBlock || d.Kind == api.KindPage {
			f.Write, f.Exec, f.Seen = d.Write, d.Exec, d.Seen
		}
		if d.Kind != api.KindTable {
			return f, true
		}
		at = d.Frame
	}
	panic("a table at level 3")
}

// checkWalk holds one walk against the chapter's words.
func checkWalk(t *testing.T, m *phys.Memory, root, page int) {
	t.Helper()
	want, ends := expect(m, root, page)
	got, err := walk.Walk(m, root, page)
	if ends && err != nil || !ends && err != api.ErrForm || got != want {
		t.Fatalf("Walk from %d of page %d: %+v, %v; want %+v, ends: %v", root, page, got, err, want, ends)
	}
}

// checkAll holds the walks of all pages, and Whole, against the chapter's words, and that the memory stays.
func checkAll(t *testing.T, m *phys.Memory, root int) {
	t.Helper()
	was := m.Clone()
	var want []api.Found
	allEnd := true
	for page := range api.Pages {
		checkWalk(t, m, root, page)
		f, ends := expect(m, root, page)
		allEnd = allEnd && ends
		if f.Kind == api.KindPage || f.Kind == api.KindBlock && page%8 == 0 {
			want = append(want, f)
		}
	}
	got, err := walk.Whole(m, root)
	if allEnd && (err != nil || !slices.Equal(got, want)) {
		t.Fatalf("Whole from %d: %+v, %v; want %+v", root, got, err, want)
	}
	if !allEnd && (err != api.ErrForm || len(got) != 0) {
		t.Fatalf("Whole from %d: %+v, %v; want ErrForm", root, got, err)
	}
	if !m.Same(was) {
		t.Fatal("the memory was changed")
	}
}

// P4.1: every page at every level.
func TestPlace(t *testing.T) {
	for page := range api.Pages {
		for level, want := range digits(page) {
			if got, err := walk.Place(level, page); err != nil || got != want {
				t.Fatalf("Place(%d, %d): %d, %v; want %d", level, page, got, err, want)
			}
		}
	}
}

// P4.1: the chapter's example, and pages whose places are all unlike.
func TestPlaceWrittenOut(t *testing.T) {
	for _, c := range []struct{ level, page, want int }{
		{3, 4095, 7}, {0, 4095, 7}, {0, 0, 0}, {3, 0, 0},
		{0, 512 + 2*64 + 3*8 + 4, 1}, {1, 512 + 2*64 + 3*8 + 4, 2}, {2, 512 + 2*64 + 3*8 + 4, 3}, {3, 512 + 2*64 + 3*8 + 4, 4},
	} {
		if got, err := walk.Place(c.level, c.page); err != nil || got != c.want {
			t.Errorf("Place(%d, %d): %d, %v; want %d", c.level, c.page, got, err, c.want)
		}
	}
}

// P4.1: levels and pages that aren't there.
func TestPlaceWrong(t *testing.T) {
	for _, level := range []int{-1, -4, 4, 5, 1 << 32, math.MaxInt, math.MinInt} {
		for _, page := range append([]int{0, 4095}, wrongPages...) {
			if got, err := walk.Place(level, page); got != 0 || err != api.ErrArg {
				t.Errorf("Place(%d, %d): %d, %v", level, page, got, err)
			}
		}
	}
	for _, page := range wrongPages {
		for level := range api.Levels {
			if got, err := walk.Place(level, page); got != 0 || err != api.ErrArg {
				t.Errorf("Place(%d, %d): %d, %v", level, page, got, err)
			}
		}
	}
}

// P4.2, P4.3: the chapter's example: a memory of 0s, from the first and the last frame.
func TestNothing(t *testing.T) {
	for _, frames := range []int{1, 2, api.MaxFrames} {
		m := made(t, frames)
		for _, root := range []int{0, frames - 1} {
			f, err := walk.Walk(m, root, 700)
			if want := (api.Found{Kind: api.KindNone, Table: root, Place: 1}); f != want || err != nil {
				t.Errorf("%+v, %v; want %+v", f, err, want)
			}
			checkAll(t, m, root)
		}
	}
}

// P4.2: a page under three tables, written out, with each of its rights.
func TestPage(t *testing.T) {
	const at = 3*512 + 1*64 + 4*8 + 2
	for n := range 8 {
		m := made(t, 16)
		d := page(9)
		d.Write, d.Exec, d.Seen, d.Soft = n&1 != 0, n&2 != 0, n&4 != 0, n
		put(t, m, 3, lead(t, m, at, 3), 3, d)
		want := api.Found{Kind: api.KindPage, Level: 3, Table: 3, Place: 2, Frame: 9, First: at, Base: 9, Write: d.Write, Exec: d.Exec, Seen: d.Seen}
		if f, err := walk.Walk(m, 0, at); f != want || err != nil {
			t.Errorf("%+v, %v; want %+v", f, err, want)
		}
		if all, err := walk.Whole(m, 0); !slices.Equal(all, []api.Found{want}) || err != nil {
			t.Errorf("%+v, %v; want %+v", all, err, want)
		}
	}
}

// P4.2, P4.3, P4.5: all pages of a block end at its place, each in a frame of its own; it is told once.
func TestBlock(t *testing.T) {
	const first = 7*512 + 6*64 + 5*8
	for n := range 8 {
		m := made(t, 16)
		d := block(8)
		d.Write, d.Exec, d.Seen, d.Soft = n&1 != 0, n&2 != 0, n&4 != 0, n
		put(t, m, 2, lead(t, m, first, 2), 2, d)
		want := api.Found{Kind: api.KindBlock, Level: 2, Table: 2, Place: 5, Order: 3, First: first, Base: 8, Write: d.Write, Exec: d.Exec, Seen: d.Seen}
		for i := range 8 {
			want.Frame = 8 + i
			if f, err := walk.Walk(m, 0, first+i); f != want || err != nil {
				t.Errorf("%+v, %v; want %+v", f, err, want)
			}
		}
		want.Frame = 8
		if all, err := walk.Whole(m, 0); !slices.Equal(all, []api.Found{want}) || err != nil {
			t.Errorf("%+v, %v; want %+v", all, err, want)
		}
	}
}

// P4.2, P4.3: a folded run, each page of which is told once, with its own frame.
func TestFolded(t *testing.T) {
	const first = 4092
	m := made(t, 16)
	lead(t, m, first, 3)
	var all []api.Found
	for i := range 4 {
		put(t, m, 3, 4+i, 3, api.Desc{Kind: api.KindPage, Frame: 12 + i, Exec: true, Fold: true})
		all = append(all, api.Found{Kind: api.KindPage, Level: 3, Table: 3, Place: 4 + i, Frame: 12 + i, Order: 2, First: first, Base: 12, Exec: true})
	}
	for i, want := range all {
		if f, err := walk.Walk(m, 0, first+i); f != want || err != nil {
			t.Errorf("%+v, %v; want %+v", f, err, want)
		}
	}
	if got, err := walk.Whole(m, 0); !slices.Equal(got, all) || err != nil {
		t.Errorf("%+v, %v; want %+v", got, err, all)
	}
}

// P4.2: a folded page tells of its run by itself, whatever its neighbours are: Base may be below 0.
func TestFoldedAlone(t *testing.T) {
	for i := range 8 {
		for frame := range 6 {
			m := made(t, 6)
			lead(t, m, 0, 3)
			put(t, m, 3, i, 3, api.Desc{Kind: api.KindPage, Frame: frame, Fold: true})
			put(t, m, 3, i^1, 3, page(2))
			want := api.Found{Kind: api.KindPage, Level: 3, Table: 3, Place: i, Frame: frame, Order: 2, First: i / 4 * 4, Base: frame - i%4}
			if f, err := walk.Walk(m, 0, i); f != want || err != nil {
				t.Errorf("%+v, %v; want %+v", f, err, want)
			}
			checkAll(t, m, 0)
		}
	}
}

// P4.2: what is neither a block nor a page has nothing but its place, at each level: moving ones have no rights here.
func TestNotFound(t *testing.T) {
	const at = 1*512 + 2*64 + 3*8 + 4
	moving, err := pte.Encode(3, api.Desc{Kind: api.KindMoving, Frame: 6, Write: true, Exec: true, Soft: 5})
	if err != nil {
		t.Fatal(err)
	}
	for level := range 4 {
		for _, c := range []struct {
			w    uint64
			kind int
		}{{0, api.KindNone}, {moving, api.KindMoving}, {1, api.KindBad}, {2, api.KindBad}, {math.MaxUint64, api.KindBad}, {512<<12 | 3, api.KindBad}} {
			m := made(t, 8)
			store(t, m, level, lead(t, m, at, level), c.w)
			want := api.Found{Kind: c.kind, Level: level, Table: level, Place: level + 1}
			if f, err := walk.Walk(m, 0, at); f != want || err != nil {
				t.Errorf("word %x at level %d: %+v, %v; want %+v", c.w, level, f, err, want)
			}
			if all, err := walk.Whole(m, 0); len(all) != 0 || err != nil {
				t.Errorf("word %x at level %d: %+v, %v", c.w, level, all, err)
			}
			checkAll(t, m, 0)
		}
	}
}

// P4.2: a word counts as its level has it: no blocks but at level 2, no pages but at level 3, no tables there.
func TestOtherLevels(t *testing.T) {
	blockWord, _ := pte.Encode(2, block(0))
	pageWord, _ := pte.Encode(3, page(0))
	tableWord, _ := pte.Encode(0, table(7))
	const none, bad, isBlock, isPage = api.KindNone, api.KindBad, api.KindBlock, api.KindPage
	for _, c := range []struct {
		w     uint64
		kinds [4]int
	}{
		{blockWord, [4]int{bad, bad, isBlock, bad}},
		{pageWord, [4]int{bad, bad, bad, isPage}},
		{tableWord, [4]int{none, none, none, bad}},
	} {
		for level, kind := range c.kinds {
			m := made(t, 8)
			store(t, m, level, lead(t, m, 0, level), c.w)
			if f, err := walk.Walk(m, 0, 0); f.Kind != kind || err != nil {
				t.Errorf("word %x at level %d: %+v, %v; want kind %d", c.w, level, f, err, kind)
			}
			checkAll(t, m, 0)
		}
	}
}

// P4.2, P4.3: arguments that may not be: the error itself, and nothing beside it.
func TestWrong(t *testing.T) {
	for _, frames := range []int{1, 4, api.MaxFrames} {
		m := made(t, frames)
		for _, root := range []int{-1, -frames, frames, frames + 1, 1 << 32, math.MaxInt, math.MinInt} {
			for _, page := range append([]int{0, 4095}, wrongPages...) {
				refused(t, m, root, page)
			}
			if all, err := walk.Whole(m, root); len(all) != 0 || err != api.ErrArg {
				t.Errorf("Whole from %d: %v, %v", root, all, err)
			}
		}
		for _, page := range wrongPages {
			refused(t, m, 0, page)
			refused(t, m, frames-1, page)
		}
	}
	for _, n := range []int{-1, 0, 5, math.MaxInt} {
		refused(t, nil, n, 0)
		refused(t, nil, 0, n)
		if all, err := walk.Whole(nil, n); len(all) != 0 || err != api.ErrArg {
			t.Errorf("Whole of nil from %d: %v, %v", n, all, err)
		}
	}
}

// R1: an argument that may not be counts ahead of a table that isn't there.
func TestWrongAhead(t *testing.T) {
	m := made(t, 1)
	for place := range 8 {
		put(t, m, 0, place, 0, table(1))
	}
	refused(t, m, 0, -1)
	refused(t, m, 0, 4096)
	refused(t, m, 1, 0)
}

func refused(t *testing.T, m *phys.Memory, root, page int) {
	t.Helper()
	if f, err := walk.Walk(m, root, page); f != (api.Found{}) || err != api.ErrArg {
		t.Errorf("Walk from %d of page %d: %+v, %v", root, page, f, err)
	}
}

// P4.2, P4.3: a table just behind the memory's frames, at each level, under the first and the last page.
func TestMissingTable(t *testing.T) {
	for _, at := range []int{0, 4095} {
		for level := range 3 {
			for _, frame := range []int{5, 6, 511} {
				m := made(t, 5)
				put(t, m, level, lead(t, m, at, level), level, table(frame))
				if f, err := walk.Walk(m, 0, at); f != (api.Found{}) || err != api.ErrForm {
					t.Errorf("table %d at level %d: %+v, %v", frame, level, f, err)
				}
				if all, err := walk.Whole(m, 0); len(all) != 0 || err != api.ErrForm {
					t.Errorf("table %d at level %d: %+v, %v", frame, level, all, err)
				}
				checkAll(t, m, 0)
			}
			m := made(t, 5)
			put(t, m, level, lead(t, m, at, level), level, table(4))
			if f, err := walk.Walk(m, 0, at); f.Level != level+1 || f.Table != 4 || err != nil {
				t.Errorf("the last frame as a table of level %d: %+v, %v", level+1, f, err)
			}
		}
	}
}

// P4.3, R3: what was found ahead of a table that isn't there isn't told.
func TestMissingBehindPages(t *testing.T) {
	m := made(t, 5)
	put(t, m, 3, lead(t, m, 0, 3), 3, page(1))
	put(t, m, 0, 7, 0, table(5))
	if all, err := walk.Whole(m, 0); len(all) != 0 || err != api.ErrForm {
		t.Errorf("%+v, %v", all, err)
	}
	checkAll(t, m, 0)
}

// P4.2: blocks and pages may name frames that the memory hasn't.
func TestFramesElsewhere(t *testing.T) {
	m := made(t, 4)
	put(t, m, 3, lead(t, m, 0, 3), 3, page(511))
	put(t, m, 2, 1, 2, block(504))
	if f, err := walk.Walk(m, 0, 0); f.Frame != 511 || f.Base != 511 || err != nil {
		t.Errorf("%+v, %v", f, err)
	}
	if f, err := walk.Walk(m, 0, 15); f.Frame != 511 || f.Base != 504 || err != nil {
		t.Errorf("%+v, %v", f, err)
	}
	if all, err := walk.Whole(m, 0); len(all) != 2 || err != nil {
		t.Errorf("%+v, %v", all, err)
	}
	checkAll(t, m, 0)
}

// P4.3: by rising pages, and not by the frames or the tables that they stand in.
func TestWholeOrder(t *testing.T) {
	m := made(t, 16)
	for _, x := range []struct{ table, place, level, to int }{{9, 7, 0, 1}, {9, 0, 0, 8}, {8, 3, 1, 7}, {1, 2, 1, 2}, {7, 7, 2, 6}, {2, 0, 2, 3}} {
		put(t, m, x.table, x.place, x.level, table(x.to))
	}
	put(t, m, 6, 7, 3, page(15))
	put(t, m, 6, 0, 3, page(14))
	put(t, m, 7, 1, 2, block(8))
	put(t, m, 3, 3, 3, page(0))
	put(t, m, 2, 7, 2, block(0))
	all, err := walk.Whole(m, 9)
	var firsts []int
	for _, f := range all {
		firsts = append(firsts, f.First)
	}
	want := []int{3*64 + 8, 3*64 + 56, 3*64 + 63, 7*512 + 2*64 + 3, 7*512 + 2*64 + 56}
	if err != nil || !slices.Equal(firsts, want) {
		t.Errorf("%v, %v; want %v", firsts, err, want)
	}
	checkAll(t, m, 9)
}

// P4.3, P4.5: a table that is led to twice is of the pages of both ways, and one that leads to itself ends at level 3.
func TestTablesTwice(t *testing.T) {
	m := made(t, 4)
	put(t, m, 3, lead(t, m, 0, 3), 3, page(9))
	put(t, m, 0, 5, 0, table(1))
	all, err := walk.Whole(m, 0)
	if err != nil || len(all) != 2 || all[0].First != 0 || all[1].First != 5*512 || all[1].Table != 3 {
		t.Errorf("%+v, %v", all, err)
	}
	checkAll(t, m, 0)
	loop := made(t, 1)
	for place := range 8 {
		put(t, loop, 0, place, 0, table(0))
	}
	if f, err := walk.Walk(loop, 0, 8); f != (api.Found{Kind: api.KindBad, Level: 3}) || err != nil {
		t.Errorf("%+v, %v", f, err)
	}
	checkAll(t, loop, 0)
}

// P4.3: as many as there can be: all 4096 pages, and all 512 blocks.
func TestWholeFull(t *testing.T) {
	pages, blocks := made(t, 4), made(t, 3)
	for place := range 8 {
		for level := range 3 {
			put(t, pages, level, place, level, table(level+1))
		}
		put(t, pages, 3, place, 3, page(place))
		put(t, blocks, 0, place, 0, table(1))
		put(t, blocks, 1, place, 1, table(2))
		put(t, blocks, 2, place, 2, block(8*place))
	}
	if all, err := walk.Whole(pages, 0); len(all) != 4096 || err != nil {
		t.Error(len(all), err)
	}
	if all, err := walk.Whole(blocks, 0); len(all) != 512 || err != nil {
		t.Error(len(all), err)
	}
	checkAll(t, pages, 0)
	checkAll(t, blocks, 0)
}

// P4.4: a list that was told is nobody else's.
func TestWholeNew(t *testing.T) {
	m := made(t, 8)
	put(t, m, 3, lead(t, m, 0, 3), 3, page(5))
	put(t, m, 2, 1, 2, block(0))
	one, _ := walk.Whole(m, 0)
	two, _ := walk.Whole(m, 0)
	if len(one) != 2 || !slices.Equal(one, two) {
		t.Fatalf("%+v, %+v", one, two)
	}
	one[0], one[1] = api.Found{}, api.Found{}
	checkAll(t, m, 0)
	if two[0].Frame != 5 || two[1].First != 8 {
		t.Errorf("%+v", two)
	}
}

// P4.5: a walk hangs on the four words that it went by: any other may be anything.
func TestOtherWords(t *testing.T) {
	const at = 1*512 + 2*64 + 3*8 + 4
	m := made(t, 8)
	put(t, m, 3, lead(t, m, at, 3), 3, page(6))
	want, err := walk.Walk(m, 0, at)
	if err != nil || want.Frame != 6 {
		t.Fatalf("%+v, %v", want, err)
	}
	for frame := range 8 {
		for i := range 8 {
			if frame < 4 && digits(at)[frame] == i {
				continue
			}
			for _, w := range []uint64{math.MaxUint64, 3, 511<<12 | 3, 1 << 6} {
				c := m.Clone()
				store(t, c, frame, i, w)
				if f, err := walk.Walk(c, 0, at); f != want || err != nil {
					t.Errorf("%x at (%d, %d): %+v, %v", w, frame, i, f, err)
				}
				checkAll(t, c, 0)
			}
		}
	}
}

// anyWord is a word that a table may well hold, of frames a little beyond a memory's too.
func anyWord(r *rand.Rand, frames int) uint64 {
	level, d := r.Intn(4), api.Desc{Frame: r.Intn(frames + 1)}
	switch n := r.Intn(12); {
	case n < 5:
		level, d.Kind, d.Frame = 0, api.KindTable, r.Intn(frames)
	case n < 6 && r.Intn(20) == 0:
		level, d.Kind = 0, api.KindTable
	case n < 7:
		level, d.Kind, d.Frame = 2, api.KindBlock, 8*r.Intn(64)
	case n < 9:
		level, d.Kind, d.Fold = 3, api.KindPage, r.Intn(2) == 0
	case n < 10:
		d.Kind = api.KindMoving
	case n < 11:
		return r.Uint64()
	default:
		return 0
	}
	if d.Kind != api.KindTable {
		d.Write, d.Exec, d.Soft = r.Intn(2) == 0, r.Intn(2) == 0, r.Intn(8)
		d.Seen = d.Kind != api.KindMoving && r.Intn(2) == 0
	}
	w, err := pte.Encode(level, d)
	if err != nil {
		panic(err)
	}
	return w
}

// P4.2 to P4.5: memories of all kinds of words, tables that lead round in circles among them.
func TestManyMemories(t *testing.T) {
	lists := 0
	for seed := range int64(150) {
		r := rand.New(rand.NewSource(seed))
		frames := 1 + r.Intn(12)
		m := made(t, frames)
		for f := range frames {
			for i := range 8 {
				store(t, m, f, i, anyWord(r, frames))
			}
		}
		for root := range frames {
			checkAll(t, m, root)
			if all, err := walk.Whole(m, root); err == nil && len(all) > 0 {
				lists++
			}
		}
	}
	if lists < 100 {
		t.Errorf("only %d memories told anything", lists)
	}
}

// P4.2: no argument makes it panic, with memories of any words.
func TestAnyWords(t *testing.T) {
	r := rand.New(rand.NewSource(7))
	for range 200 {
		m := made(t, 1+r.Intn(4))
		for f := range m.Frames() {
			for i := range 8 {
				store(t, m, f, i, r.Uint64()&r.Uint64())
			}
		}
		for range 50 {
			root, page := r.Intn(6)-1, r.Intn(4100)-2
			f, err := walk.Walk(m, root, page)
			if err != nil && f != (api.Found{}) {
				t.Fatalf("%+v beside %v", f, err)
			}
			if may := root >= 0 && root < m.Frames() && page >= 0 && page < 4096; may == (err == api.ErrArg) {
				t.Fatalf("Walk from %d of page %d: %v", root, page, err)
			}
		}
	}
}
