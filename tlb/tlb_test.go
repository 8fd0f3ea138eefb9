package tlb_test

import (
	"math"
	"math/rand"
	"slices"
	"testing"

	"pavior/api"
	"pavior/phys"
	"pavior/pte"
	"pavior/tlb"
	"pavior/walk"
)

var (
	mayBe = []api.Entry{
		{},
		{Asid: 255, First: 4095, Base: 511},
		{Asid: 7, First: 4092, Order: 2, Base: 3, Write: true},
		{Asid: 7, First: 4088, Order: 3, Base: 8, Exec: true},
		{Asid: 1, First: 4, Order: 2, Base: 5},
		{Asid: 1, First: 1, Base: math.MaxInt},
		{Asid: 1, First: 8, Order: 3, Base: math.MaxInt},
	}
	mayNotBe = []api.Entry{
		{Asid: -1},
		{Asid: 256},
		{Asid: math.MaxInt},
		{Asid: math.MinInt},
		{Order: 1},
		{Order: -1},
		{Order: 4},
		{Order: 64},
		{Order: math.MaxInt},
		{Order: math.MinInt},
		{First: -1},
		{First: -8, Order: 3},
		{First: 4096},
		{First: 4096, Order: 3},
		{First: 1 << 41},
		{First: math.MaxInt},
		{First: math.MinInt},
		{First: math.MinInt, Order: 3},
		{First: 1, Order: 2},
		{First: 2, Order: 2},
		{First: 7, Order: 2},
		{First: 4, Order: 3},
		{First: 4095, Order: 3},
		{Base: -1},
		{Base: math.MinInt},
	}
	wrongNumbers = []int{-1, -8, 4096, 4097, 1 << 32, math.MaxInt, math.MaxInt - 7, math.MinInt, math.MinInt + 8}
)

// frameOf is the frame that an entry tells of a page, and whether it is of it.
func frameOf(e api.Entry, asid, page int) (int, bool) {
	for i := range []int{0: 1, 2: 4, 3: 8}[e.Order] {
		if asid == e.Asid && page == e.First+i {
			return e.Base + i, true
		}
	}
	return 0, false
}

// clashes goes through all pages that a may be of, by the chapter's words.
func clashes(a, b api.Entry) bool {
	for page := a.First; page < a.First+8; page++ {
		left, isLeft := frameOf(a, a.Asid, page)
		right, isRight := frameOf(b, a.Asid, page)
		if isLeft && isRight && (left != right || a.Order != b.Order || a.Write != b.Write || a.Exec != b.Exec) {
			return true
		}
	}
	return false
}

func fill(t *testing.T, b *tlb.Buffer, l ...api.Entry) {
	t.Helper()
	for _, e := range l {
		if err := b.Fill(e); err != nil {
			t.Fatalf("Fill(%+v): %v", e, err)
		}
	}
}

func filled(t *testing.T, l ...api.Entry) *tlb.Buffer {
	t.Helper()
	b := tlb.New()
	fill(t, b, l...)
	return b
}

func holds(t *testing.T, b *tlb.Buffer, want ...api.Entry) {
	t.Helper()
	if got := b.Entries(); !slices.Equal(got, want) {
		t.Fatalf("entries %+v, not %+v", got, want)
	}
}

func broken(t *testing.T, b *tlb.Buffer, want bool) {
	t.Helper()
	if b.Broken() != want {
		t.Fatalf("broken: %v, of %+v", !want, b.Entries())
	}
}

func foundAs(e api.Entry, kind int) api.Found {
	return api.Found{Kind: kind, Level: 3, Table: 9, Place: 5, Frame: 77, Order: e.Order,
		First: e.First, Base: e.Base, Write: e.Write, Exec: e.Exec, Seen: true}
}

// P5.1
func TestOf(t *testing.T) {
	for _, kind := range []int{api.KindBlock, api.KindPage} {
		for _, e := range mayBe {
			if got, err := tlb.Of(foundAs(e, kind), e.Asid); err != nil || got != e {
				t.Errorf("%+v: %+v, %v", e, got, err)
			}
		}
		for _, e := range mayNotBe {
			if got, err := tlb.Of(foundAs(e, kind), e.Asid); err != api.ErrArg || got != (api.Entry{}) {
				t.Errorf("%+v: %+v, %v", e, got, err)
			}
		}
	}
}

// P5.1, R1: which kind it is comes first.
func TestOfOtherKinds(t *testing.T) {
	kinds := []int{api.KindNone, api.KindTable, api.KindMoving, api.KindBad, -1, 6, math.MaxInt, math.MinInt}
	for _, kind := range kinds {
		for _, e := range slices.Concat(mayBe, mayNotBe) {
			if got, err := tlb.Of(foundAs(e, kind), e.Asid); err != api.ErrNone || got != (api.Entry{}) {
				t.Errorf("kind %d, %+v: %+v, %v", kind, e, got, err)
			}
		}
	}
}

// P5.1: what walks find of a page, of a folded run and of a block.
func TestOfWalks(t *testing.T) {
	m, err := phys.New(32)
	if err != nil {
		t.Fatal(err)
	}
	put := func(table, place, level int, d api.Desc) {
		w, err := pte.Encode(level, d)
		if err == nil {
			err = m.Store(table, place, w)
		}
		if err != nil {
			t.Fatal(err)
		}
	}
	put(0, 0, 0, api.Desc{Kind: api.KindTable, Frame: 1})
	put(1, 0, 1, api.Desc{Kind: api.KindTable, Frame: 2})
	put(2, 0, 2, api.Desc{Kind: api.KindTable, Frame: 3})
	put(2, 1, 2, api.Desc{Kind: api.KindBlock, Frame: 16, Exec: true})
	put(3, 1, 3, api.Desc{Kind: api.KindPage, Frame: 9, Write: true})
	put(3, 6, 3, api.Desc{Kind: api.KindPage, Frame: 14, Fold: true, Write: true, Exec: true})
	put(3, 7, 3, api.Desc{Kind: api.KindPage, Frame: 1, Fold: true})
	for page, want := range map[int]api.Entry{
		1:  {Asid: 4, First: 1, Base: 9, Write: true},
		6:  {Asid: 4, First: 4, Order: 2, Base: 12, Write: true, Exec: true},
		8:  {Asid: 4, First: 8, Order: 3, Base: 16, Exec: true},
		15: {Asid: 4, First: 8, Order: 3, Base: 16, Exec: true},
	} {
		f, err := walk.Walk(m, 0, page)
		if err != nil {
			t.Fatal(err)
		}
		if got, err := tlb.Of(f, 4); err != nil || got != want {
			t.Errorf("page %d: %+v, %v", page, got, err)
		}
	}
	for page, want := range map[int]error{0: api.ErrNone, 16: api.ErrNone, 7: api.ErrArg} {
		f, err := walk.Walk(m, 0, page)
		if err != nil {
			t.Fatal(err)
		}
		if got, err := tlb.Of(f, 4); err != want || got != (api.Entry{}) {
			t.Errorf("page %d: %+v, %v", page, got, err)
		}
	}
}

// P5.1
func TestClash(t *testing.T) {
	run := api.Entry{Asid: 1, First: 12, Order: 2, Base: 4}
	for _, c := range []struct {
		name string
		b    api.Entry
		want bool
	}{
		{"the same", run, false},
		{"another frame", api.Entry{Asid: 1, First: 12, Order: 2, Base: 5}, true},
		{"another frame, far away", api.Entry{Asid: 1, First: 12, Order: 2, Base: math.MaxInt}, true},
		{"other rights: write", api.Entry{Asid: 1, First: 12, Order: 2, Base: 4, Write: true}, true},
		{"other rights: exec", api.Entry{Asid: 1, First: 12, Order: 2, Base: 4, Exec: true}, true},
		{"another order, the same frame", api.Entry{Asid: 1, First: 14, Base: 6}, true},
		{"the first page", api.Entry{Asid: 1, First: 12, Base: 4}, true},
		{"the last page", api.Entry{Asid: 1, First: 15, Base: 7}, true},
		{"a block around it, the same frames", api.Entry{Asid: 1, First: 8, Order: 3, Base: 0}, true},
		{"the page behind it", api.Entry{Asid: 1, First: 16, Base: 0}, false},
		{"the page ahead of it", api.Entry{Asid: 1, First: 11, Base: 4}, false},
		{"the run ahead of it", api.Entry{Asid: 1, First: 8, Order: 2, Base: 4}, false},
		{"the block behind it", api.Entry{Asid: 1, First: 16, Order: 3, Base: 4}, false},
		{"another space", api.Entry{Asid: 2, First: 12, Order: 2, Base: 5}, false},
		{"another space and order", api.Entry{Asid: 0, First: 8, Order: 3, Base: 0}, false},
	} {
		if tlb.Clash(run, c.b) != c.want || tlb.Clash(c.b, run) != c.want {
			t.Errorf("%s: not %v", c.name, c.want)
		}
	}
}

// P5.1: of two that meet one that may not be takes the clash away.
func TestClashOfWhatMayNotBe(t *testing.T) {
	for _, e := range mayNotBe {
		for _, other := range slices.Concat(mayBe, mayNotBe) {
			other.Asid = e.Asid
			if tlb.Clash(e, other) || tlb.Clash(other, e) {
				t.Errorf("%+v, %+v", e, other)
			}
		}
	}
	if tlb.Clash(api.Entry{First: 2, Order: 2}, api.Entry{First: 4, Base: 9}) {
		t.Error("a run that isn't aligned")
	}
}

// someEntry is one of few, so that two of them often meet.
func someEntry(r *rand.Rand) api.Entry {
	order := []int{0, 2, 3}[r.Intn(3)]
	size := 1 << order
	first := r.Intn(24) / size * size
	return api.Entry{Asid: r.Intn(3), First: first, Order: order, Base: first + r.Intn(8)/7,
		Write: r.Intn(8) == 0, Exec: r.Intn(8) == 0}
}

// P5.1: held against the pages, one by one.
func TestClashAsThePagesSay(t *testing.T) {
	r := rand.New(rand.NewSource(5))
	seen := [2]int{}
	for range 20000 {
		a, b := someEntry(r), someEntry(r)
		want := clashes(a, b)
		if want {
			seen[1]++
		} else {
			seen[0]++
		}
		if tlb.Clash(a, b) != want {
			t.Fatalf("%+v, %+v: not %v", a, b, want)
		}
	}
	if seen[0] < 1000 || seen[1] < 1000 {
		t.Error("too few of one kind", seen)
	}
}

// P5.2
func TestNew(t *testing.T) {
	b := tlb.New()
	holds(t, b)
	broken(t, b, false)
	if e, is := b.Find(0, 0); is || e != (api.Entry{}) {
		t.Error(e, is)
	}
	b.Page(0, 0)
	b.Space(0)
	b.All()
	holds(t, b)
}

// P5.2: two buffers share nothing.
func TestNewIsNew(t *testing.T) {
	a, b := tlb.New(), tlb.New()
	fill(t, a, api.Entry{First: 1}, api.Entry{First: 1, Base: 1})
	holds(t, b)
	broken(t, b, false)
	broken(t, a, true)
}

// P5.2
func TestFill(t *testing.T) {
	one, two, three := api.Entry{First: 1}, api.Entry{First: 2}, api.Entry{First: 3}
	b := filled(t, two, one, three)
	holds(t, b, two, one, three)
	fill(t, b, two)
	holds(t, b, two, one, three)
	broken(t, b, false)
	for _, e := range mayNotBe {
		if err := b.Fill(e); err != api.ErrArg {
			t.Errorf("%+v: %v", e, err)
		}
	}
	holds(t, b, two, one, three)
	broken(t, b, false)
	for _, e := range mayBe {
		holds(t, filled(t, e), e)
	}
}

// P5.2: one that breaks the buffer is filled in nevertheless, in both orders.
func TestFillBreaks(t *testing.T) {
	page, block := api.Entry{First: 8, Base: 5}, api.Entry{First: 8, Order: 3, Base: 8}
	other := api.Entry{First: 2}
	b := filled(t, page, other)
	broken(t, b, false)
	fill(t, b, block)
	broken(t, b, true)
	holds(t, b, page, other, block)
	b = filled(t, other, block, page)
	broken(t, b, true)
	holds(t, b, other, block, page)
	b = filled(t, page, api.Entry{Asid: 1, First: 8, Order: 3, Base: 8})
	broken(t, b, false)
}

// P5.2: two that clash, but are never held together.
func TestFillBehindWhatWent(t *testing.T) {
	page, block := api.Entry{First: 8, Base: 5}, api.Entry{First: 8, Order: 3, Base: 8}
	b := filled(t, page)
	b.Page(0, 8)
	fill(t, b, block)
	b.Space(0)
	fill(t, b, page)
	b.All()
	fill(t, b, block)
	if err := b.Evict(0); err != nil {
		t.Error(err)
	}
	fill(t, b, page)
	broken(t, b, false)
	holds(t, b, page)
}

func manyPages(n int) []api.Entry {
	var l []api.Entry
	for i := range n {
		l = append(l, api.Entry{Asid: 3, First: 8 * i, Base: i})
	}
	return l
}

// P5.2
func TestFillWhenFull(t *testing.T) {
	l := manyPages(api.MaxEntries + 2)
	b := filled(t, l[:api.MaxEntries]...)
	holds(t, b, l[:api.MaxEntries]...)
	fill(t, b, l[0], l[63], l[5])
	holds(t, b, l[:api.MaxEntries]...)
	if err := b.Fill(api.Entry{First: 1, Order: 3}); err != api.ErrArg {
		t.Error(err)
	}
	holds(t, b, l[:api.MaxEntries]...)
	fill(t, b, l[64])
	holds(t, b, l[1:65]...)
	fill(t, b, l[65], l[1])
	holds(t, b, slices.Concat(l[3:66], l[1:2])...)
}

// P5.2: the first one goes ahead of what is filled in, so they are never together; all others stay to clash with.
func TestFillWhenFullAndClashing(t *testing.T) {
	l := manyPages(api.MaxEntries)
	b := filled(t, l...)
	block := api.Entry{Asid: 3, First: 0, Order: 3}
	fill(t, b, block)
	broken(t, b, false)
	holds(t, b, append(l[1:64:64], block)...)
	for _, at := range []int{1, 2, 63} {
		b := filled(t, l...)
		fill(t, b, api.Entry{Asid: 3, First: 8 * at, Order: 3, Base: at})
		broken(t, b, true)
	}
}

// P5.3
func TestFind(t *testing.T) {
	page := api.Entry{Asid: 1, First: 9, Base: 5, Write: true}
	run := api.Entry{Asid: 1, First: 12, Order: 2, Base: 20}
	block := api.Entry{Asid: 1, First: 8, Order: 3, Base: 8, Exec: true}
	other := api.Entry{Asid: 2, First: 8, Order: 3, Base: 24}
	b := filled(t, page, other, block, run)
	for _, c := range []struct {
		asid, page int
		want       api.Entry
	}{{1, 9, page}, {1, 8, block}, {1, 10, block}, {1, 12, block}, {1, 15, block}, {2, 9, other}, {2, 8, other}, {2, 15, other}} {
		if e, is := b.Find(c.asid, c.page); !is || e != c.want {
			t.Errorf("(%d, %d): %+v, %v", c.asid, c.page, e, is)
		}
	}
	none := [][2]int{{1, 7}, {1, 16}, {2, 7}, {2, 16}, {0, 9}, {3, 9}, {-1, 9}, {256, 9}, {math.MaxInt, 9}, {math.MinInt, 9}}
	for _, n := range wrongNumbers {
		none = append(none, [2]int{1, n}, [2]int{2, n}, [2]int{n, n})
	}
	for _, c := range none {
		if e, is := b.Find(c[0], c[1]); is || e != (api.Entry{}) {
			t.Errorf("%v: %+v, %v", c, e, is)
		}
	}
	holds(t, b, page, other, block, run)
}

// P5.3: the edges of a space.
func TestFindAtTheEdges(t *testing.T) {
	b := filled(t, api.Entry{}, api.Entry{Asid: 255, First: 4088, Order: 3})
	for _, page := range append(wrongNumbers, 1, 4087) {
		if _, is := b.Find(0, page); is {
			t.Error(0, page)
		}
		if _, is := b.Find(255, page); is {
			t.Error(255, page)
		}
	}
	if _, is := b.Find(255, 4095); !is {
		t.Error("the last page")
	}
	if e, is := b.Find(0, 0); !is || e != (api.Entry{}) {
		t.Error("the first page", e)
	}
}

// P5.3
func TestEvict(t *testing.T) {
	l := manyPages(4)
	for n := range l {
		b := filled(t, l...)
		if err := b.Evict(n); err != nil {
			t.Error(err)
		}
		holds(t, b, slices.Delete(slices.Clone(l), n, n+1)...)
	}
	b := filled(t, l...)
	for _, n := range append(wrongNumbers, 4, 5, 63, 64) {
		if err := b.Evict(n); err != api.ErrNone {
			t.Errorf("%d: %v", n, err)
		}
	}
	holds(t, b, l...)
	if err := tlb.New().Evict(0); err != api.ErrNone {
		t.Error(err)
	}
}

// P5.3, P5.2: what went may be filled in again, and is behind all then.
func TestFillAgain(t *testing.T) {
	l := manyPages(3)
	b := filled(t, l...)
	if err := b.Evict(0); err != nil {
		t.Error(err)
	}
	fill(t, b, l[0])
	holds(t, b, l[1], l[2], l[0])
}

// P5.4, P5.6
func TestPage(t *testing.T) {
	page := api.Entry{Asid: 1, First: 9, Base: 5}
	block := api.Entry{Asid: 1, First: 8, Order: 3, Base: 8}
	run := api.Entry{Asid: 1, First: 12, Order: 2, Base: 20}
	next := api.Entry{Asid: 1, First: 16, Base: 20}
	other := api.Entry{Asid: 2, First: 8, Order: 3, Base: 24}
	all := []api.Entry{next, page, other, block, run}
	for _, c := range []struct {
		asid, page int
		left       []api.Entry
	}{
		{1, 9, []api.Entry{next, other, run}},
		{1, 8, []api.Entry{next, page, other, run}},
		{1, 12, []api.Entry{next, page, other}},
		{1, 15, []api.Entry{next, page, other}},
		{1, 16, []api.Entry{page, other, block, run}},
		{2, 9, []api.Entry{next, page, block, run}},
		{1, 7, all},
		{1, 17, all},
		{0, 9, all},
	} {
		b := filled(t, all...)
		b.Page(c.asid, c.page)
		holds(t, b, c.left...)
	}
	b := filled(t, all...)
	for _, n := range wrongNumbers {
		b.Page(1, n)
		b.Page(n, 9)
		b.Page(n, n)
	}
	holds(t, b, all...)
}

// P5.4, P5.6
func TestSpace(t *testing.T) {
	a, b1, c := api.Entry{Asid: 0, First: 9}, api.Entry{Asid: 1, First: 9}, api.Entry{Asid: 255, First: 8, Order: 3}
	a2, b2 := api.Entry{Asid: 0, First: 4000}, api.Entry{Asid: 1, First: 12, Order: 2}
	all := []api.Entry{b1, a, c, b2, a2}
	for asid, left := range map[int][]api.Entry{
		0: {b1, c, b2}, 1: {a, c, a2}, 255: {b1, a, b2, a2}, 2: all, -1: all, 256: all, math.MaxInt: all, math.MinInt: all,
	} {
		b := filled(t, all...)
		b.Space(asid)
		holds(t, b, left...)
	}
}

// P5.4
func TestAll(t *testing.T) {
	b := filled(t, manyPages(api.MaxEntries)...)
	b.All()
	holds(t, b)
	fill(t, b, manyPages(api.MaxEntries)...)
	holds(t, b, manyPages(api.MaxEntries)...)
}

// P5.6
func TestBrokenStays(t *testing.T) {
	b := filled(t, api.Entry{First: 1}, api.Entry{First: 1, Write: true})
	for _, act := range []func(){
		func() { b.Evict(0) },
		func() { b.Page(0, 1) },
		func() { b.Space(0) },
		func() { fill(t, b, api.Entry{First: 3}) },
		func() { b.All() },
		func() { fill(t, b, manyPages(64)...) },
	} {
		act()
		broken(t, b, true)
	}
}

// P5.5
func TestToldIsNew(t *testing.T) {
	l := manyPages(5)
	b := filled(t, l...)
	told := b.Entries()
	clear(told)
	_ = append(told[:2], api.Entry{First: 1})
	holds(t, b, l...)
	told = b.Entries()
	b.Evict(0)
	b.Page(3, 16)
	fill(t, b, api.Entry{First: 77})
	if !slices.Equal(told, l) {
		t.Error("what was told is changed:", told)
	}
	told = b.Entries()
	fill(t, b, api.Entry{First: 78})
	_ = append(told, api.Entry{First: 79})
	holds(t, b, append(told, api.Entry{First: 78})...)
}

// P5.6: in one that isn't broken all that are of one Asid and page tell one frame and the same rights of it.
func agree(t *testing.T, b *tlb.Buffer) {
	t.Helper()
	l := b.Entries()
	for i, a := range l {
		for _, other := range l[:i] {
			if a == other {
				t.Fatalf("twice: %+v", a)
			}
			if !b.Broken() && clashes(a, other) {
				t.Fatalf("not broken, with %+v and %+v", a, other)
			}
		}
	}
}

// model is a buffer by the chapter's words alone.
type model struct {
	entries []api.Entry
	broken  bool
}

func (m *model) fill(e api.Entry) {
	for _, held := range m.entries {
		if held == e {
			return
		}
	}
	if len(m.entries) == 64 {
		m.entries = m.entries[1:]
	}
	for _, held := range m.entries {
		m.broken = m.broken || clashes(held, e)
	}
	m.entries = append(m.entries, e)
}

func (m *model) drop(asid, from, to int) {
	var left []api.Entry
	for _, e := range m.entries {
		goes := false
		for page := from; page < to; page++ {
			_, is := frameOf(e, asid, page)
			goes = goes || is
		}
		if !goes {
			left = append(left, e)
		}
	}
	m.entries = left
}

func (m *model) find(asid, page int) (api.Entry, bool) {
	for _, e := range m.entries {
		if _, is := frameOf(e, asid, page); is {
			return e, true
		}
	}
	return api.Entry{}, false
}

// P5.2 to P5.4, P5.6: many buffers, each held against the model after every call.
func TestManyCalls(t *testing.T) {
	r := rand.New(rand.NewSource(55))
	whole := 0
	for round := range 60 {
		b, m := tlb.New(), &model{}
		for range 120 {
			e := someEntry(r)
			if round%2 == 0 { // of pages alone, frame by frame: such don't clash
				e = api.Entry{Asid: e.Asid, First: r.Intn(80), Write: true}
				e.Base = e.First + e.Asid
			}
			asid, page := r.Intn(4), r.Intn(80)
			switch r.Intn(40) {
			case 0:
				b.Space(asid)
				m.drop(asid, 0, 4096)
			case 1, 2:
				b.Page(asid, page)
				m.drop(asid, page, page+1)
			case 3:
				if n := r.Intn(64); n < len(m.entries) {
					m.entries = slices.Delete(slices.Clone(m.entries), n, n+1)
					if err := b.Evict(n); err != nil {
						t.Fatal(err)
					}
				} else if err := b.Evict(n); err != api.ErrNone {
					t.Fatal(err)
				}
			default:
				fill(t, b, e)
				m.fill(e)
			}
			holds(t, b, m.entries...)
			broken(t, b, m.broken)
			got, is := b.Find(asid, page)
			if want, wantIs := m.find(asid, page); got != want || is != wantIs {
				t.Fatalf("(%d, %d): %+v, %v", asid, page, got, is)
			}
			if len(m.entries) == 64 {
				whole++
			}
		}
		agree(t, b)
	}
	if whole == 0 {
		t.Error("no buffer was ever full")
	}
}
