package tree_test

import (
	"math"
	"math/rand"
	"slices"
	"testing"

	"pavior/api"
	"pavior/phys"
	"pavior/pte"
	"pavior/tree"
	"pavior/walk"
)

var (
	wrongPages  = []int{-1, -4096, 4096, 4097, 1 << 32, math.MaxInt, math.MinInt}
	wrongLevels = []int{0, -1, 4, 5, 1 << 32, math.MaxInt, math.MinInt}
	wrongAsids  = []int{-1, 256, 257, 1 << 32, math.MaxInt, math.MinInt}
)

func made(t *testing.T, frames int) *phys.Memory {
	t.Helper()
	m, err := phys.New(frames)
	if err != nil {
		t.Fatal(err)
	}
	return m
}

func store(t *testing.T, m *phys.Memory, table, place int, w uint64) {
	t.Helper()
	if err := m.Store(table, place, w); err != nil {
		t.Fatal(err)
	}
}

func put(t *testing.T, m *phys.Memory, table, place, level int, d api.Desc) {
	t.Helper()
	w, err := pte.Encode(level, d)
	if err != nil {
		t.Fatalf("%+v at level %d: %v", d, level, err)
	}
	store(t, m, table, place, w)
}

func table(frame int) api.Desc  { return api.Desc{Kind: api.KindTable, Frame: frame} }
func page(frame int) api.Desc   { return api.Desc{Kind: api.KindPage, Frame: frame} }
func block(frame int) api.Desc  { return api.Desc{Kind: api.KindBlock, Frame: frame} }
func moving(frame int) api.Desc { return api.Desc{Kind: api.KindMoving, Frame: frame, Write: true} }

// digits is a page's places, told without a shift: eight to a digit.
func digits(page int) [4]int {
	return [4]int{page / 512, page / 64 % 8, page / 8 % 8, page % 8}
}

// span is how many pages a place at a level leads to.
func span(level int) int { return [4]int{512, 64, 8, 1}[level] }

// lead lays tables from level 0 down to a level, one in each of the frames from 0 on, that lead to a page.
func lead(t *testing.T, m *phys.Memory, page, level int) {
	t.Helper()
	places := digits(page)
	for l := range level {
		put(t, m, l, places[l], l, table(l+1))
	}
}

// done does steps to a memory.
func done(t *testing.T, m *phys.Memory, steps []api.Step) {
	t.Helper()
	for _, s := range steps {
		switch s.Kind {
		case api.StepWrite:
			store(t, m, s.Table, s.Place, s.Value)
		case api.StepClear:
			if err := m.Clear(s.To); err != nil {
				t.Fatal(err)
			}
		case api.StepSpace, api.StepDrop:
		default:
			t.Fatalf("a step of kind %d", s.Kind)
		}
	}
}

// says reads a descriptor, as the chapters have it.
func says(m *phys.Memory, level, table, place int) api.Desc {
	w, _ := m.Load(table, place)
	d, _ := pte.Decode(level, w)
	return d
}

// The model: the tables on the way to a page's place at a level, the kind of the word that it ends at, and whether none of the tables is missing from the memory.
func modelWay(m *phys.Memory, root, page, level int) (tables []int, kind int, there bool) {
	places := digits(page)
	tables = []int{root}
	for l := 0; l < level; l++ {
		d := says(m, l, tables[l], places[l])
		if d.Kind != api.KindTable {
			return tables, d.Kind, true
		}
		if d.Frame >= m.Frames() {
			return nil, 0, false
		}
		tables = append(tables, d.Frame)
	}
	return tables, api.KindTable, true
}

// modelNeed is what the chapter's words say of Need, where the arguments may be.
func modelNeed(m *phys.Memory, root, page, level int) (int, error) {
	tables, kind, there := modelWay(m, root, page, level)
	switch {
	case !there:
		return 0, api.ErrForm
	case kind != api.KindTable && kind != api.KindNone:
		return 0, api.ErrState
	}
	return level - (len(tables) - 1), nil
}

// modelPath is what they say of Path.
func modelPath(m *phys.Memory, root, asid, page, level int, fresh []int) ([]api.Step, api.Slot, error) {
	missing, err := modelNeed(m, root, page, level)
	if err != nil {
		return nil, api.Slot{}, err
	}
	if missing > len(fresh) {
		return nil, api.Slot{}, api.ErrFull
	}
	tables, _, _ := modelWay(m, root, page, level)
	tables = append(tables, fresh[:missing]...)
	var steps []api.Step
	for l := level - missing + 1; l <= level; l++ {
		steps = append(steps, api.Step{Kind: api.StepClear, To: tables[l]})
		steps = append(steps, api.Step{
			Kind: api.StepWrite, Asid: asid, Level: l - 1, Table: tables[l-1], Place: digits(page)[l-1],
			First: page - page%span(l-1), Value: uint64(tables[l])<<12 | 3,
		})
	}
	return steps, api.Slot{Table: tables[level], Place: digits(page)[level]}, nil
}

// modelPrune is what they say of Prune: it does to a copy what it tells, so that a table is empty when its words are.
func modelPrune(m *phys.Memory, root, asid, page int) ([]api.Step, []int, error) {
	tables, _, there := modelWay(m, root, page, 3)
	if !there {
		return nil, nil, api.ErrForm
	}
	var steps []api.Step
	var gone []int
	now := m.Clone()
	for l := len(tables) - 1; l >= 1; l-- {
		words := 0
		for i := range 8 {
			if w, _ := now.Load(tables[l], i); w != 0 {
				words++
			}
		}
		if words > 0 {
			break
		}
		up := api.Step{Kind: api.StepWrite, Asid: asid, Level: l - 1, Table: tables[l-1], Place: digits(page)[l-1], First: page - page%span(l-1)}
		steps = append(steps, up, api.Step{Kind: api.StepSpace, Asid: asid}, api.Step{Kind: api.StepDrop, Table: tables[l]})
		gone = append(gone, tables[l])
		_ = now.Store(up.Table, up.Place, 0)
	}
	return steps, gone, nil
}

// modelTables is what they say of Tables, by three loops.
func modelTables(m *phys.Memory, root int) ([]int, error) {
	all := []int{root}
	below := func(l, at, i int) (int, bool) {
		d := says(m, l, at, i)
		if d.Kind != api.KindTable {
			return 0, false
		}
		all = append(all, d.Frame)
		return d.Frame, d.Frame < m.Frames()
	}
	for i := range 8 {
		one, is := below(0, root, i)
		for j := 0; is && j < 8; j++ {
			two, is := below(1, one, j)
			for k := 0; is && k < 8; k++ {
				below(2, two, k)
			}
		}
	}
	if slices.Max(all) >= m.Frames() {
		return nil, api.ErrForm
	}
	return all, nil
}

func sameError(t *testing.T, call string, got, want error) {
	t.Helper()
	if got != want {
		t.Fatalf("%s: %v; want %v", call, got, want)
	}
}

// checkNeed holds Need of a page at all levels against the model.
func checkNeed(t *testing.T, m *phys.Memory, root, page int) {
	t.Helper()
	for level := 1; level <= 3; level++ {
		n, err := tree.Need(m, root, page, level)
		want, wantErr := modelNeed(m, root, page, level)
		sameError(t, "Need", err, wantErr)
		if n != want {
			t.Fatalf("Need from %d of page %d at level %d: %d; want %d", root, page, level, n, want)
		}
	}
}

// checkPath holds one Path against the model.
func checkPath(t *testing.T, m *phys.Memory, root, asid, page, level int, fresh []int) []api.Step {
	t.Helper()
	steps, slot, err := tree.Path(m, root, asid, page, level, fresh)
	want, wantSlot, wantErr := modelPath(m, root, asid, page, level, fresh)
	sameError(t, "Path", err, wantErr)
	if !slices.Equal(steps, want) || slot != wantSlot {
		t.Fatalf("Path from %d of page %d at level %d by %v: %+v, %+v; want %+v, %+v", root, page, level, fresh, steps, slot, want, wantSlot)
	}
	return steps
}

// checkPrune holds one Prune against the model.
func checkPrune(t *testing.T, m *phys.Memory, root, asid, page int) ([]api.Step, []int) {
	t.Helper()
	steps, gone, err := tree.Prune(m, root, asid, page)
	want, wantGone, wantErr := modelPrune(m, root, asid, page)
	sameError(t, "Prune", err, wantErr)
	if !slices.Equal(steps, want) || !slices.Equal(gone, wantGone) {
		t.Fatalf("Prune from %d of page %d: %+v, %v; want %+v, %v", root, page, steps, gone, want, wantGone)
	}
	return steps, gone
}

// checkTables holds Tables against the model.
func checkTables(t *testing.T, m *phys.Memory, root int) []int {
	t.Helper()
	all, err := tree.Tables(m, root)
	want, wantErr := modelTables(m, root)
	sameError(t, "Tables", err, wantErr)
	if !slices.Equal(all, want) {
		t.Fatalf("Tables from %d: %v; want %v", root, all, want)
	}
	return all
}

func refusedNeed(t *testing.T, m *phys.Memory, root, page, level int, want error) {
	t.Helper()
	if n, err := tree.Need(m, root, page, level); n != 0 || err != want {
		t.Errorf("Need from %d of page %d at level %d: %d, %v; want %v", root, page, level, n, err, want)
	}
}

func refusedPath(t *testing.T, m *phys.Memory, root, asid, page, level int, fresh []int, want error) {
	t.Helper()
	steps, slot, err := tree.Path(m, root, asid, page, level, fresh)
	if len(steps) != 0 || slot != (api.Slot{}) || err != want {
		t.Errorf("Path from %d for %d of page %d at level %d by %v: %+v, %+v, %v; want %v", root, asid, page, level, fresh, steps, slot, err, want)
	}
}

func refusedPrune(t *testing.T, m *phys.Memory, root, asid, page int, want error) {
	t.Helper()
	steps, gone, err := tree.Prune(m, root, asid, page)
	if len(steps) != 0 || len(gone) != 0 || err != want {
		t.Errorf("Prune from %d for %d of page %d: %+v, %v, %v; want %v", root, asid, page, steps, gone, err, want)
	}
}

func refusedTables(t *testing.T, m *phys.Memory, root int, want error) {
	t.Helper()
	if all, err := tree.Tables(m, root); len(all) != 0 || err != want {
		t.Errorf("Tables from %d: %v, %v; want %v", root, all, err, want)
	}
}

// P12.1: the chapter's example, and a memory of 0s from its first and its last frame.
func TestNothingThere(t *testing.T) {
	for _, frames := range []int{1, 2, api.MaxFrames} {
		m := made(t, frames)
		for _, root := range []int{0, frames - 1} {
			for _, page := range []int{0, 700, 4095} {
				for level := 1; level <= 3; level++ {
					if n, err := tree.Need(m, root, page, level); n != level || err != nil {
						t.Errorf("to level %d: %d, %v", level, n, err)
					}
				}
				if steps, gone, err := tree.Prune(m, root, 0, page); len(steps) != 0 || len(gone) != 0 || err != nil {
					t.Errorf("%v, %v, %v", steps, gone, err)
				}
			}
			if all, err := tree.Tables(m, root); !slices.Equal(all, []int{root}) || err != nil {
				t.Errorf("%v, %v", all, err)
			}
		}
	}
}

// P12.1: with tables down to each level, for the page that they lead to and for those beside it.
func TestNeed(t *testing.T) {
	const at = 1*512 + 2*64 + 3*8 + 4
	for down := range 4 {
		m := made(t, 8)
		lead(t, m, at, down)
		for level := 1; level <= 3; level++ {
			if n, err := tree.Need(m, 0, at, level); n != max(0, level-down) || err != nil {
				t.Errorf("%d of %d levels: %d, %v", level, down, n, err)
			}
			// A page that parts from the way at a level has what is above that.
			for parts := range 4 {
				other := at ^ span(parts)
				if n, err := tree.Need(m, 0, other, level); n != max(0, level-min(down, parts)) || err != nil {
					t.Errorf("page %d, %d of %d levels: %d, %v", other, level, down, n, err)
				}
			}
		}
	}
}

// P12.1: a word that is neither a table nor none counts ahead of the level that is asked, and at it no more.
func TestNeedState(t *testing.T) {
	const at = 7*512 + 6*64 + 5*8 + 3
	for l := range 4 {
		words := []uint64{1, 2, math.MaxUint64, 512<<12 | 3, 7<<12 | 10, 3 | 1<<6, 1 << 63}
		if l == 2 {
			words = append(words, 8<<12|1<<6|1)
		}
		if l == 3 {
			words = append(words, 5<<12|1<<6|3, 3)
		}
		for _, w := range words {
			m := made(t, 16)
			lead(t, m, at, l)
			store(t, m, l, digits(at)[l], w)
			for level := 1; level <= 3; level++ {
				if l >= level {
					if n, err := tree.Need(m, 0, at, level); n != 0 || err != nil {
						t.Errorf("word %x at %d, to level %d: %d, %v", w, l, level, n, err)
					}
					checkPath(t, m, 0, 0, at, level, nil)
					continue
				}
				refusedNeed(t, m, 0, at, level, api.ErrState)
				refusedPath(t, m, 0, 0, at, level, []int{9, 10, 11}, api.ErrState)
			}
			checkNeed(t, m, 0, at)
			checkPrune(t, m, 0, 0, at)
		}
	}
}

// P12.1 to P12.4: a table just behind the memory's frames, at each level; one that the way doesn't come to is nothing to it.
func TestMissingFrame(t *testing.T) {
	for _, at := range []int{0, 1234, 4095} {
		for l := range 3 {
			for _, frame := range []int{9, 10, 511} {
				m := made(t, 9)
				lead(t, m, at, l)
				put(t, m, l, digits(at)[l], l, table(frame))
				for level := 1; level <= 3; level++ {
					if l >= level {
						checkPath(t, m, 0, 3, at, level, nil)
						continue
					}
					refusedNeed(t, m, 0, at, level, api.ErrForm)
					refusedPath(t, m, 0, 3, at, level, []int{5, 6, 7}, api.ErrForm)
				}
				refusedPrune(t, m, 0, 3, at, api.ErrForm)
				refusedTables(t, m, 0, api.ErrForm)
				checkNeed(t, m, 0, at^span(l))
				checkPrune(t, m, 0, 3, at^span(l))
			}
			m := made(t, 9)
			lead(t, m, at, l)
			put(t, m, l, digits(at)[l], l, table(8))
			checkNeed(t, m, 0, at)
			if all := checkTables(t, m, 0); !slices.Contains(all, 8) {
				t.Errorf("the last frame as a table: %v", all)
			}
		}
	}
}

// P12.1 to P12.4, R1: arguments that may not be, each with the error itself and nothing beside it.
func TestWrong(t *testing.T) {
	fresh := []int{0, 0, 0}
	for _, frames := range []int{1, 5, api.MaxFrames} {
		m := made(t, frames)
		for _, root := range []int{-1, -frames, frames, frames + 1, 1 << 32, math.MaxInt, math.MinInt} {
			refusedNeed(t, m, root, 0, 3, api.ErrArg)
			refusedPath(t, m, root, 0, 0, 3, fresh, api.ErrArg)
			refusedPrune(t, m, root, 0, 0, api.ErrArg)
			refusedTables(t, m, root, api.ErrArg)
		}
		for _, page := range wrongPages {
			refusedNeed(t, m, 0, page, 3, api.ErrArg)
			refusedPath(t, m, 0, 0, page, 3, fresh, api.ErrArg)
			refusedPrune(t, m, 0, 0, page, api.ErrArg)
		}
		for _, level := range wrongLevels {
			refusedNeed(t, m, 0, 0, level, api.ErrArg)
			refusedPath(t, m, 0, 0, 0, level, fresh, api.ErrArg)
		}
		for _, asid := range wrongAsids {
			refusedPath(t, m, 0, asid, 0, 3, fresh, api.ErrArg)
			refusedPrune(t, m, 0, asid, 0, api.ErrArg)
		}
		for _, frame := range []int{-1, frames, frames + 1, 1 << 32, math.MaxInt, math.MinInt} {
			for i := range 5 {
				odd := slices.Repeat([]int{0}, 5)
				odd[i] = frame
				refusedPath(t, m, 0, 0, 0, 3, odd, api.ErrArg)
			}
		}
	}
	for _, n := range []int{-1, 0, 5, math.MaxInt} {
		refusedNeed(t, nil, n, 0, 3, api.ErrArg)
		refusedPath(t, nil, n, 0, 0, 3, nil, api.ErrArg)
		refusedPrune(t, nil, n, 0, 0, api.ErrArg)
		refusedTables(t, nil, n, api.ErrArg)
	}
}

// R1: which of several errors is answered.
func TestWrongOrder(t *testing.T) {
	form, state, full := made(t, 4), made(t, 4), made(t, 4)
	put(t, form, 0, 0, 0, table(4))
	store(t, state, 0, 0, 1)
	for _, page := range wrongPages {
		refusedNeed(t, form, 0, page, 3, api.ErrArg)
		refusedPrune(t, form, 0, 0, page, api.ErrArg)
	}
	for _, level := range wrongLevels {
		refusedNeed(t, form, 0, 0, level, api.ErrArg)
		refusedNeed(t, state, 0, 0, level, api.ErrArg)
		refusedPath(t, state, 0, 0, 0, level, nil, api.ErrArg)
	}
	for _, asid := range wrongAsids {
		refusedPath(t, form, 0, asid, 0, 3, []int{9}, api.ErrForm)
		refusedPath(t, state, 0, asid, 0, 3, []int{9}, api.ErrState)
		refusedPath(t, full, 0, asid, 0, 3, nil, api.ErrArg)
		refusedPrune(t, form, 0, asid, 0, api.ErrForm)
		refusedPrune(t, state, 0, asid, 0, api.ErrArg)
	}
	refusedPath(t, form, 0, 0, 0, 3, nil, api.ErrForm)
	refusedPath(t, state, 0, 0, 0, 3, nil, api.ErrState)
	refusedPath(t, full, 0, 0, 0, 3, []int{4}, api.ErrArg)
	refusedPath(t, full, 0, 0, 0, 3, []int{1, 2}, api.ErrFull)
}

// P12.2: the steps, written out, in all their fields.
func TestPath(t *testing.T) {
	const at = 1*512 + 2*64 + 3*8 + 4
	m := made(t, 16)
	put(t, m, 7, 1, 0, table(3))
	fresh := []int{12, 15, 9}
	steps, slot, err := tree.Path(m, 7, 200, at, 3, fresh)
	want := []api.Step{
		{Kind: api.StepClear, To: 12},
		{Kind: api.StepWrite, Asid: 200, Level: 1, Table: 3, Place: 2, First: 640, Value: 12<<12 | 3},
		{Kind: api.StepClear, To: 15},
		{Kind: api.StepWrite, Asid: 200, Level: 2, Table: 12, Place: 3, First: 664, Value: 15<<12 | 3},
	}
	if err != nil || !slices.Equal(steps, want) || slot != (api.Slot{Table: 15, Place: 4}) {
		t.Errorf("%+v, %+v, %v; want %+v", steps, slot, err, want)
	}
	if !slices.Equal(fresh, []int{12, 15, 9}) {
		t.Errorf("what was handed in became %v", fresh)
	}
	steps, slot, err = tree.Path(m, 7, 0, 4095, 2, []int{0, 1})
	want = []api.Step{
		{Kind: api.StepClear, To: 0},
		{Kind: api.StepWrite, Level: 0, Table: 7, Place: 7, First: 3584, Value: 3},
		{Kind: api.StepClear, To: 1},
		{Kind: api.StepWrite, Level: 1, Table: 0, Place: 7, First: 4032, Value: 1<<12 | 3},
	}
	if err != nil || !slices.Equal(steps, want) || slot != (api.Slot{Table: 1, Place: 7}) {
		t.Errorf("%+v, %+v, %v; want %+v", steps, slot, err, want)
	}
}

// P12.2: each level, with none to all of its tables there, and as many fresh ones as are missing, fewer, and more.
func TestPathLevels(t *testing.T) {
	for _, at := range []int{0, 4095, 1*512 + 2*64 + 3*8 + 4} {
		for down := range 4 {
			m := made(t, 32)
			lead(t, m, at, down)
			for level := 1; level <= 3; level++ {
				missing := max(0, level-down)
				for n := range 6 {
					fresh := []int{31, 20, 25, 24, 30}[:n]
					if n < missing {
						refusedPath(t, m, 0, 255, at, level, fresh, api.ErrFull)
						continue
					}
					if steps := checkPath(t, m, 0, 255, at, level, fresh); len(steps) != 2*missing {
						t.Errorf("%d steps for %d tables", len(steps), missing)
					}
				}
			}
		}
	}
}

// P12.2: nothing is missing, so no steps: the slot alone, whatever stands there.
func TestPathThere(t *testing.T) {
	const at = 5*512 + 8 + 6
	m := made(t, 16)
	lead(t, m, at, 3)
	for _, d := range []api.Desc{{}, page(9), moving(4), {Kind: api.KindPage, Frame: 400, Fold: true}} {
		put(t, m, 3, 6, 3, d)
		for level, want := range []api.Slot{{}, {Table: 1, Place: 0}, {Table: 2, Place: 1}, {Table: 3, Place: 6}} {
			if level == 0 {
				continue
			}
			for _, fresh := range [][]int{nil, {9}, {9, 9}} {
				steps, slot, err := tree.Path(m, 0, 1, at, level, fresh)
				if len(steps) != 0 || slot != want || err != nil {
					t.Errorf("to level %d: %+v, %+v, %v; want %+v", level, steps, slot, err, want)
				}
			}
		}
	}
}

// P12.2: fresh ones are taken as they are handed in, be they used, or twice the same.
func TestPathAnyFresh(t *testing.T) {
	m := made(t, 4)
	checkPath(t, m, 0, 1, 9, 3, []int{0, 0, 0})
	checkPath(t, m, 0, 1, 9, 3, []int{3, 3, 3})
	checkPath(t, m, 2, 1, 9, 3, []int{1, 0, 2})
}

// P12.3: all three tables, written out, in all fields of the steps.
func TestPrune(t *testing.T) {
	const at = 1*512 + 2*64 + 3*8 + 4
	m := made(t, 16)
	put(t, m, 7, 1, 0, table(3))
	put(t, m, 3, 2, 1, table(12))
	put(t, m, 12, 3, 2, table(15))
	steps, gone, err := tree.Prune(m, 7, 200, at)
	want := []api.Step{
		{Kind: api.StepWrite, Asid: 200, Level: 2, Table: 12, Place: 3, First: 664},
		{Kind: api.StepSpace, Asid: 200},
		{Kind: api.StepDrop, Table: 15},
		{Kind: api.StepWrite, Asid: 200, Level: 1, Table: 3, Place: 2, First: 640},
		{Kind: api.StepSpace, Asid: 200},
		{Kind: api.StepDrop, Table: 12},
		{Kind: api.StepWrite, Asid: 200, Level: 0, Table: 7, Place: 1, First: 512},
		{Kind: api.StepSpace, Asid: 200},
		{Kind: api.StepDrop, Table: 3},
	}
	if err != nil || !slices.Equal(steps, want) || !slices.Equal(gone, []int{15, 12, 3}) {
		t.Errorf("%+v, %v, %v; want %+v", steps, gone, err, want)
	}
}

// P12.3: any word of a table keeps it, and those above it; at the page's own place too.
func TestPruneKept(t *testing.T) {
	const at = 1*512 + 2*64 + 3*8 + 4
	for l := range 4 {
		for place := range 8 {
			for _, w := range []uint64{1, 10, 5<<12 | 3, math.MaxUint64} {
				if l < 3 && place == digits(at)[l] {
					continue
				}
				m := made(t, 8)
				lead(t, m, at, 3)
				store(t, m, l, place, w)
				_, gone := checkPrune(t, m, 0, 9, at)
				if want := []int{3, 2, 1}[:min(3, 3-l)]; !slices.Equal(gone, want) {
					t.Errorf("word %x at (%d, %d): %v; want %v", w, l, place, gone, want)
				}
			}
		}
	}
}

// P12.3: the way leads by tables no farther than to a level: the lowest one goes if all of its words are none.
func TestPruneShort(t *testing.T) {
	const at = 1*512 + 2*64 + 3*8 + 4
	for down := range 4 {
		for _, w := range []uint64{0, 1, 10, 512<<12 | 3} {
			m := made(t, 8)
			lead(t, m, at, down)
			store(t, m, down, digits(at)[down], w)
			_, gone := checkPrune(t, m, 0, 9, at)
			want := []int{3, 2, 1}[3-down:]
			if w != 0 {
				want = nil
			}
			if !slices.Equal(gone, want) {
				t.Errorf("word %x below %d tables: %v; want %v", w, down, gone, want)
			}
		}
	}
}

// P12.3: a page whose way parts from the tables takes away those on its way alone.
func TestPruneBeside(t *testing.T) {
	const at = 1*512 + 2*64 + 3*8 + 4
	for parts, want := range [][]int{nil, nil, nil, {3, 2, 1}} {
		m := made(t, 8)
		lead(t, m, at, 3)
		if _, gone := checkPrune(t, m, 0, 9, at^span(parts)); !slices.Equal(gone, want) {
			t.Errorf("a page that parts at level %d: %v; want %v", parts, gone, want)
		}
	}
}

// P12.3: of two ways that lead to one table the one is taken away, and the other one keeps the table above.
func TestPruneTwice(t *testing.T) {
	m := made(t, 8)
	lead(t, m, 0, 3)
	put(t, m, 2, 5, 2, table(3))
	if _, gone := checkPrune(t, m, 0, 9, 0); !slices.Equal(gone, []int{3}) {
		t.Errorf("%v", gone)
	}
	if _, gone := checkPrune(t, m, 0, 9, 40); !slices.Equal(gone, []int{3}) {
		t.Errorf("%v", gone)
	}
}

// P12.4: the order: each table is followed by its own, by rising places, whatever frames they have.
func TestTables(t *testing.T) {
	m := made(t, 64)
	for _, x := range []struct{ table, place, level, to int }{
		{50, 7, 0, 3}, {50, 0, 0, 40}, {50, 4, 0, 10},
		{40, 6, 1, 1}, {40, 5, 1, 30}, {30, 7, 2, 2}, {30, 1, 2, 20}, {1, 0, 2, 63},
		{3, 3, 1, 5}, {5, 2, 2, 0},
	} {
		put(t, m, x.table, x.place, x.level, table(x.to))
	}
	put(t, m, 30, 2, 2, block(16))
	put(t, m, 20, 0, 3, page(33))
	put(t, m, 20, 1, 3, moving(34))
	want := []int{50, 40, 30, 20, 2, 1, 63, 10, 3, 5, 0}
	if all := checkTables(t, m, 50); !slices.Equal(all, want) {
		t.Errorf("%v; want %v", all, want)
	}
}

// P12.4: the last level's tables lead nowhere, whatever their words are.
func TestTablesLast(t *testing.T) {
	m := made(t, 4)
	lead(t, m, 0, 3)
	store(t, m, 3, 0, 9<<12|3)
	store(t, m, 3, 1, 511<<12|3)
	if all := checkTables(t, m, 0); !slices.Equal(all, []int{0, 1, 2, 3}) {
		t.Errorf("%v", all)
	}
}

// P12.4: a frame that is led to twice is told twice, with all that is its own; one that leads to itself at each level.
func TestTablesTwice(t *testing.T) {
	m := made(t, 4)
	lead(t, m, 0, 3)
	put(t, m, 0, 5, 0, table(1))
	put(t, m, 2, 7, 2, table(3))
	if all := checkTables(t, m, 0); !slices.Equal(all, []int{0, 1, 2, 3, 3, 1, 2, 3, 3}) {
		t.Errorf("%v", all)
	}
	loop := made(t, 1)
	put(t, loop, 0, 6, 0, table(0))
	if all := checkTables(t, loop, 0); !slices.Equal(all, []int{0, 0, 0, 0}) {
		t.Errorf("%v", all)
	}
	for place := range 8 {
		put(t, loop, 0, place, 0, table(0))
	}
	if all := checkTables(t, loop, 0); len(all) != 1+8+64+512 {
		t.Errorf("%d tables", len(all))
	}
}

// P12.4, R3: tables ahead of one that isn't there aren't told.
func TestTablesMissingLate(t *testing.T) {
	m := made(t, 4)
	lead(t, m, 0, 3)
	put(t, m, 2, 7, 2, table(4))
	refusedTables(t, m, 0, api.ErrForm)
	checkNeed(t, m, 0, 0)
}

// P12.5: the memory stays as it is, and what is told is nobody else's.
func TestNewMemory(t *testing.T) {
	const at = 1*512 + 2*64 + 3*8 + 4
	m := made(t, 16)
	lead(t, m, at, 3)
	was := m.Clone()
	fresh := []int{9, 10, 11, 12}
	for range 2 {
		steps, _, _ := tree.Path(m, 0, 1, 4095, 3, fresh)
		steps2, _, _ := tree.Path(m, 0, 1, 4095, 3, fresh)
		down, gone, _ := tree.Prune(m, 0, 1, at)
		all, _ := tree.Tables(m, 0)
		if len(steps) != 6 || len(down) != 9 || len(gone) != 3 || len(all) != 4 {
			t.Fatal(steps, down, gone, all)
		}
		for _, l := range [][]int{gone[:cap(gone)], all[:cap(all)]} {
			for i := range l {
				l[i] = 77
			}
		}
		for _, l := range [][]api.Step{steps[:cap(steps)], down[:cap(down)]} {
			for i := range l {
				l[i] = api.Step{}
			}
		}
		if steps2[0].To != 9 || steps2[5].First != 4088 {
			t.Error(steps2)
		}
		if !m.Same(was) || !slices.Equal(fresh, []int{9, 10, 11, 12}) {
			t.Error("what was handed in was changed")
		}
	}
}

// A grown tree has tables that are all unlike, and the frames that are none of them.
type grown struct {
	m    *phys.Memory
	root int
	free []int
}

// grow makes a tree whose words are of all kinds.
func grow(t *testing.T, r *rand.Rand) *grown {
	t.Helper()
	g := &grown{m: made(t, 24+r.Intn(60))}
	g.free = r.Perm(g.m.Frames())
	g.root = g.take()
	g.fill(t, r, g.root, 0)
	// What isn't a table may hold anything.
	for _, f := range g.free {
		store(t, g.m, f, r.Intn(8), r.Uint64())
	}
	return g
}

func (g *grown) take() int {
	f := g.free[0]
	g.free = g.free[1:]
	return f
}

func (g *grown) fill(t *testing.T, r *rand.Rand, at, level int) {
	for place := range 8 {
		switch n := r.Intn(20); {
		case n < 5 && level < 3 && len(g.free) > 6:
			f := g.take()
			put(t, g.m, at, place, level, table(f))
			g.fill(t, r, f, level+1)
		case n == 5 && level == 2:
			put(t, g.m, at, place, level, block(8*r.Intn(64)))
		case n == 6 && level == 3:
			put(t, g.m, at, place, level, api.Desc{Kind: api.KindPage, Frame: r.Intn(512), Seen: true, Fold: r.Intn(2) == 0})
		case n == 7 && r.Intn(3) == 0:
			put(t, g.m, at, place, level, moving(r.Intn(512)))
		case n == 8 && r.Intn(9) == 0:
			store(t, g.m, at, place, 1<<11)
		}
	}
}

// walks is what the walks of all pages find.
func (g *grown) walks(t *testing.T) []api.Found {
	t.Helper()
	var all []api.Found
	for page := range api.Pages {
		f, err := walk.Walk(g.m, g.root, page)
		if err != nil {
			t.Fatal(err)
		}
		// Where nothing is, a walk may end at another place.
		if f.Kind == api.KindNone {
			f = api.Found{}
		}
		all = append(all, f)
	}
	return all
}

// checkGrown holds, of a page, Path and Prune against the model, does their steps, and asks all walks whether they find what they found.
func (g *grown) checkGrown(t *testing.T, asid, page, level int, was []api.Found) {
	t.Helper()
	checkNeed(t, g.m, g.root, page)
	missing, err := tree.Need(g.m, g.root, page, level)
	if err != nil {
		return
	}
	tables := checkTables(t, g.m, g.root)
	steps := checkPath(t, g.m, g.root, asid, page, level, g.free)
	done(t, g.m, steps)
	if n, err := tree.Need(g.m, g.root, page, level); n != 0 || err != nil {
		t.Fatalf("%d are missing behind Path, %v", n, err)
	}
	if len(steps) > 0 && !slices.Equal(was, g.walks(t)) {
		t.Fatalf("walks find something else behind Path of page %d", page)
	}
	steps, gone := checkPrune(t, g.m, g.root, asid, page)
	laid := slices.Clone(g.free[:missing])
	slices.Reverse(laid)
	if len(gone) < missing || !slices.Equal(gone[:missing], laid) {
		t.Fatalf("Path laid %v, Prune took %v", laid, gone)
	}
	done(t, g.m, steps)
	if len(steps) > 0 && !slices.Equal(was, g.walks(t)) {
		t.Fatalf("walks find something else behind Prune of page %d", page)
	}
	for _, f := range gone[missing:] {
		tables = slices.DeleteFunc(tables, func(table int) bool { return table == f })
		g.free = append(g.free, f)
	}
	if now := checkTables(t, g.m, g.root); !slices.Equal(now, tables) {
		t.Fatalf("tables %v; want %v", now, tables)
	}
}

// P12.1 to P12.6: trees of all kinds of words, whose tables are unlike.
func TestManyTrees(t *testing.T) {
	laid := 0
	for seed := range int64(120) {
		r := rand.New(rand.NewSource(seed))
		g := grow(t, r)
		was := g.walks(t)
		for range 12 {
			page, level := r.Intn(api.Pages), 1+r.Intn(3)
			if n, err := tree.Need(g.m, g.root, page, level); err == nil {
				laid += n
			}
			g.checkGrown(t, r.Intn(256), page, level, was)
		}
	}
	if laid < 1000 {
		t.Errorf("only %d tables were laid", laid)
	}
}

// P12.6: from a root alone, every page's tables are laid one behind the other until no frame is left, and all are taken away again.
func TestLayAndTake(t *testing.T) {
	r := rand.New(rand.NewSource(5))
	m := made(t, 200)
	free := r.Perm(200)
	root := free[0]
	free = free[1:]
	var pages []int
	for {
		page := r.Intn(api.Pages)
		n, err := tree.Need(m, root, page, 3)
		if err != nil {
			t.Fatal(err)
		}
		if n > len(free) {
			refusedPath(t, m, root, 1, page, 3, free, api.ErrFull)
			break
		}
		done(t, m, checkPath(t, m, root, 1, page, 3, free))
		free, pages = free[n:], append(pages, page)
	}
	if all := checkTables(t, m, root); len(all) != 200-len(free) {
		t.Errorf("%d tables beside %d free frames", len(all), len(free))
	}
	for _, page := range pages {
		steps, gone := checkPrune(t, m, root, 1, page)
		done(t, m, steps)
		free = append(free, gone...)
	}
	if all := checkTables(t, m, root); !slices.Equal(all, []int{root}) || len(free) != 199 {
		t.Errorf("tables %v, %d free frames", all, len(free))
	}
}

// P12.1 to P12.5: any words at all, tables that lead round in circles and ones that aren't there among them.
func TestAnyWords(t *testing.T) {
	var told [8]int
	for seed := range int64(400) {
		r := rand.New(rand.NewSource(seed))
		frames := 1 + r.Intn(10)
		m := made(t, frames)
		for f := range frames {
			for i := range 8 {
				switch n := r.Intn(10); {
				case n < 4:
					put(t, m, f, i, 0, table(r.Intn(frames)))
				case n == 4 && r.Intn(10) == 0:
					put(t, m, f, i, 0, table(frames+r.Intn(3)))
				case n == 5:
					store(t, m, f, i, r.Uint64()&r.Uint64())
				}
			}
		}
		was := m.Clone()
		for range 60 {
			root, page, level := r.Intn(frames), r.Intn(api.Pages), 1+r.Intn(3)
			fresh := make([]int, r.Intn(5))
			for i := range fresh {
				fresh[i] = r.Intn(frames)
			}
			checkNeed(t, m, root, page)
			checkPath(t, m, root, r.Intn(256), page, level, fresh)
			checkPrune(t, m, root, r.Intn(256), page)
			checkTables(t, m, root)
			switch _, _, err := tree.Path(m, root, 0, page, level, fresh); err {
			case nil:
				told[0]++
			case api.ErrForm, api.ErrFull, api.ErrState:
				told[err.(api.Code)]++
			}
		}
		if !m.Same(was) {
			t.Fatal("the memory was changed")
		}
	}
	for _, code := range []int{0, int(api.ErrForm), int(api.ErrFull), int(api.ErrState)} {
		if told[code] < 100 {
			t.Errorf("error %d was told %d times", code, told[code])
		}
	}
}

// P1: every call ends and none panics, at all arguments, in memories of any words.
func TestAllArguments(t *testing.T) {
	odd := []int{math.MinInt, -4097, -1, 0, 1, 2, 3, 4, 255, 256, 4095, 4096, 1 << 32, math.MaxInt}
	full := made(t, 3)
	for f := range 3 {
		for i := range 8 {
			put(t, full, f, i, 0, table((f+i)%4))
		}
	}
	for _, m := range []*phys.Memory{nil, made(t, 1), full} {
		for _, root := range odd {
			tree.Tables(m, root)
			for _, page := range odd {
				for _, n := range odd {
					tree.Need(m, root, page, n)
					tree.Prune(m, root, n, page)
					for _, level := range []int{math.MinInt, 0, 1, 3, 4} {
						tree.Path(m, root, n, page, level, nil)
						tree.Path(m, root, n, page, level, odd)
						tree.Path(m, root, n, page, level, []int{0, 1, 2})
					}
				}
			}
		}
	}
}
