package bbm_test

import (
	"math"
	"math/rand"
	"testing"

	"pavior/api"
	"pavior/bbm"
	"pavior/pte"
)

var (
	oddNumbers = []int{math.MinInt, math.MinInt + 1, -4096, -8, -1, 0, 1, 3, 4, 7, 8, 255, 256, 511, 512, 4095, 4096, 1 << 32, 1<<40 + 8, math.MaxInt - 7, math.MaxInt}
	// leads is how many pages a place leads to, by its level.
	leads = []int{512, 64, 8, 1}
)

// at is a place that writes go to.
type at struct{ asid, level, table, place, first int }

func (p at) write(t *testing.T, w *bbm.Watch, old, new uint64) {
	t.Helper()
	if err := w.Write(p.asid, p.level, p.table, p.place, p.first, old, new); err != nil {
		t.Fatalf("Write(%+v, %x, %x): %v", p, old, new, err)
	}
}

// tell tells the pages of p from the i-th on up to the n-th.
func (p at) tell(w *bbm.Watch, i, n int) {
	for ; i < n; i++ {
		w.Told(p.asid, p.first+i)
	}
}

// whole are places at all levels, each with two valid words that say different things there.
func whole(t *testing.T) map[at][2]uint64 {
	table := func(frame int) uint64 { return encode(t, 1, api.Desc{Kind: api.KindTable, Frame: frame}) }
	return map[at][2]uint64{
		{1, 0, 5, 3, 512}:      {table(7), table(8)},
		{1, 1, 5, 3, 64}:       {table(7), table(8)},
		{1, 2, 5, 3, 8}:        {table(7), encode(t, 2, api.Desc{Kind: api.KindBlock, Frame: 8})},
		{1, 3, 5, 3, 3}:        {page(t, 2), page(t, 3)},
		{0, 0, 0, 0, 0}:        {table(0), table(511)},
		{255, 0, 511, 7, 3584}: {table(511), table(0)},
		{255, 1, 511, 7, 4032}: {table(1), table(2)},
		{255, 2, 511, 7, 4088}: {encode(t, 2, api.Desc{Kind: api.KindBlock, Frame: 504}), table(2)},
		{255, 3, 511, 7, 4095}: {page(t, 511), page(t, 0)},
	}
}

func encode(t *testing.T, level int, d api.Desc) uint64 {
	t.Helper()
	w, err := pte.Encode(level, d)
	if err != nil {
		t.Fatalf("%d, %+v: %v", level, d, err)
	}
	return w
}

func page(t *testing.T, frame int) uint64 {
	t.Helper()
	return encode(t, 3, api.Desc{Kind: api.KindPage, Frame: frame, Write: true, Exec: true})
}

func stands(t *testing.T, w *bbm.Watch, broken bool, open int) {
	t.Helper()
	if w.Broken() != broken || w.Open() != open {
		t.Fatalf("broken %v, open %d; not %v, %d", w.Broken(), w.Open(), broken, open)
	}
}

// P6.3
func TestNew(t *testing.T) {
	w := bbm.New()
	stands(t, w, false, 0)
	w.Told(0, 0)
	w.Space(0)
	w.Forget(0)
	stands(t, w, false, 0)
}

// P6.3: two watches share nothing.
func TestNewIsNew(t *testing.T) {
	a, b := bbm.New(), bbm.New()
	p := at{1, 3, 5, 0, 8}
	p.write(t, a, page(t, 2), page(t, 3))
	p.write(t, a, page(t, 2), 0)
	stands(t, a, true, 1)
	stands(t, b, false, 0)
	p.write(t, b, 0, page(t, 3))
	stands(t, b, false, 0)
}

// The chapter's examples.
func TestExamples(t *testing.T) {
	p := at{1, 3, 5, 0, 8}
	w := bbm.New()
	p.write(t, w, page(t, 2), page(t, 3))
	stands(t, w, true, 0)
	w = bbm.New()
	p.write(t, w, page(t, 2), 0)
	stands(t, w, false, 1)
	w.Told(1, 8)
	stands(t, w, false, 0)
	p.write(t, w, 0, page(t, 3))
	stands(t, w, false, 0)
}

// wrongPlaces may not be written at: each is wrong in one thing.
func wrongPlaces() []at {
	var l []at
	for _, n := range []int{-1, 4, 5, -4, 64, math.MaxInt, math.MinInt} {
		l = append(l, at{1, n, 5, 0, 0})
	}
	for _, n := range []int{-1, 512, 513, 1 << 32, math.MaxInt, math.MinInt} {
		l = append(l, at{1, 3, n, 0, 8})
	}
	for _, n := range []int{-1, 8, 9, 1 << 32, math.MaxInt, math.MinInt} {
		l = append(l, at{1, 3, 5, n, 8})
	}
	for _, n := range []int{-1, 256, 257, 1 << 32, math.MaxInt, math.MinInt} {
		l = append(l, at{n, 3, 5, 0, 8})
	}
	for level, size := range leads {
		for _, n := range []int{-1, -size, -2 * size, 4096, 4096 + size, 1 << 20, 1 << 40, 1<<40 + size, 1 << 62, math.MaxInt, math.MinInt} {
			l = append(l, at{1, level, 5, 0, n})
		}
		for _, n := range []int{1, size / 2, size - 1, size + 1, size + size/2, 4095, 4096 - size/2} {
			if n%size != 0 {
				l = append(l, at{1, level, 5, 0, n})
			}
		}
	}
	return l
}

// P6.1: what may not be written is not noted, whatever it would do.
func TestWriteThatMayNotBe(t *testing.T) {
	two, three := page(t, 2), page(t, 3)
	w := bbm.New()
	at{1, 3, 5, 0, 8}.write(t, w, two, 0)
	for _, p := range wrongPlaces() {
		for _, words := range [][2]uint64{{two, three}, {two, 0}, {0, three}, {0, 0}, {two, two}, {1, 3}, {math.MaxUint64, 1}} {
			if err := w.Write(p.asid, p.level, p.table, p.place, p.first, words[0], words[1]); err != api.ErrArg {
				t.Errorf("%+v, %x: %v", p, words, err)
			}
			stands(t, w, false, 1)
		}
	}
	w.Told(1, 8)
	stands(t, w, false, 0)
}

// P6.1: all places that there are, at all their edges.
func TestWriteAtTheEdges(t *testing.T) {
	for level, size := range leads {
		for _, asid := range []int{0, 1, 254, 255} {
			for _, table := range []int{0, 1, 510, 511} {
				for place := range 8 {
					for first := 0; first < 4096; first += max(size, 64) {
						p := at{asid, level, table, place, first}
						w := bbm.New()
						p.write(t, w, 3, 0)
						stands(t, w, false, 1)
					}
				}
			}
		}
	}
	at{0, 3, 0, 0, 4095}.write(t, bbm.New(), 3, 0)
	at{0, 2, 0, 0, 4088}.write(t, bbm.New(), 3, 0)
}

// P6.1: what may not follow in one write breaks it, and opens nothing.
func TestWriteOver(t *testing.T) {
	two := page(t, 2)
	seen := encode(t, 3, api.Desc{Kind: api.KindPage, Frame: 2, Write: true, Exec: true, Seen: true, Soft: 5})
	fixed := encode(t, 3, api.Desc{Kind: api.KindPage, Frame: 2, Exec: true})
	quiet := encode(t, 3, api.Desc{Kind: api.KindPage, Frame: 2, Write: true})
	fold := encode(t, 3, api.Desc{Kind: api.KindPage, Frame: 2, Write: true, Exec: true, Fold: true})
	moving := encode(t, 3, api.Desc{Kind: api.KindMoving, Frame: 2})
	block := encode(t, 2, api.Desc{Kind: api.KindBlock, Frame: 8, Write: true})
	blockSeen := encode(t, 2, api.Desc{Kind: api.KindBlock, Frame: 8, Write: true, Seen: true, Soft: 1})
	table := encode(t, 2, api.Desc{Kind: api.KindTable, Frame: 8})
	for _, c := range []struct {
		name     string
		level    int
		old, new uint64
		broken   bool
		open     int
	}{
		{"the same", 3, two, two, false, 0},
		{"seen and soft", 3, two, seen, false, 0},
		{"not seen any more", 3, seen, two, false, 0},
		{"another frame", 3, two, page(t, 3), true, 0},
		{"no write", 3, two, fixed, true, 0},
		{"write", 3, fixed, two, true, 0},
		{"no exec", 3, two, quiet, true, 0},
		{"folded", 3, two, fold, true, 0},
		{"unfolded", 3, fold, two, true, 0},
		{"a block, seen", 2, block, blockSeen, false, 0},
		{"a block to a table", 2, block, table, true, 0},
		{"a table to a block", 2, table, block, true, 0},
		{"a table to another one", 0, table, table + 1<<12, true, 0},
		{"a table to itself", 1, table, table, false, 0},
		{"pages where they are reserved", 2, two, seen, true, 0},
		{"the same where it is reserved", 2, two, two, false, 0},
		{"reserved ones", 0, 1, 5, true, 0},
		{"a reserved one to a page", 3, 1, two, true, 0},
		{"none to none", 3, 0, 0, false, 0},
		{"none to moving", 3, 0, moving, false, 0},
		{"moving to none", 3, moving, 0, false, 0},
		{"none to a page", 3, 0, two, false, 0},
		{"moving to a page", 3, moving, two, false, 0},
		{"a page to none", 3, two, 0, false, 1},
		{"a page to moving", 3, two, moving, false, 1},
		{"a page to a reserved one that isn't valid", 3, two, math.MaxUint64 - 1, false, 1},
		{"a reserved one to none", 3, math.MaxUint64, 0, false, 1},
		{"a reserved one that isn't valid to none", 3, 2, 0, false, 0},
		{"a reserved one that isn't valid to a page", 3, 1 << 63, two, false, 0},
	} {
		w := bbm.New()
		at{9, c.level, 4, 2, 512}.write(t, w, c.old, c.new)
		if w.Broken() != c.broken || w.Open() != c.open {
			t.Errorf("%s: broken %v, open %d", c.name, w.Broken(), w.Open())
		}
	}
}

// P6.1, P6.2, P6.4: at each level another word may come when the last page was told, and not ahead of it.
func TestAllPagesAreToTell(t *testing.T) {
	for p, words := range whole(t) {
		size := leads[p.level]
		for missing := range size {
			w := bbm.New()
			p.write(t, w, words[0], 0)
			p.tell(w, 0, missing)
			p.tell(w, missing+1, size)
			stands(t, w, false, 1)
			p.write(t, w, 0, words[1])
			stands(t, w, true, 0)
		}
		w := bbm.New()
		p.write(t, w, words[0], 0)
		p.tell(w, size/2, size)
		p.tell(w, 0, size/2)
		stands(t, w, false, 0)
		p.write(t, w, 0, words[1])
		stands(t, w, false, 0)
	}
}

// P6.2: a page that is told again is told once; those beside the place's aren't its own.
func TestToldOfOtherPages(t *testing.T) {
	for p, words := range whole(t) {
		size := leads[p.level]
		w := bbm.New()
		p.write(t, w, words[0], 0)
		for range 2 * size {
			w.Told(p.asid, p.first)
		}
		last := p.first + size - 1
		for _, n := range append(oddNumbers, p.first-1, last+1, p.first-size, p.first+size) {
			if n < p.first || n > last {
				w.Told(p.asid, n)
			}
			for _, asid := range append(oddNumbers, p.asid-1, p.asid+1) {
				if asid != p.asid {
					w.Told(asid, last)
				}
			}
		}
		if size == 1 {
			stands(t, w, false, 0)
			continue
		}
		stands(t, w, false, 1)
		p.write(t, w, 0, words[1])
		stands(t, w, true, 0)
	}
}

// P6.4: what is told of another Asid closes nothing.
func TestToldOfAnotherSpace(t *testing.T) {
	for p, words := range whole(t) {
		w := bbm.New()
		p.write(t, w, words[0], 0)
		for _, asid := range append(oddNumbers, p.asid-1, p.asid+1) {
			if asid != p.asid {
				at{asid: asid, first: p.first}.tell(w, 0, leads[p.level])
				w.Space(asid)
			}
		}
		stands(t, w, false, 1)
		p.write(t, w, 0, words[1])
		stands(t, w, true, 0)
	}
}

// P6.1: what is told ahead of the opening doesn't count.
func TestToldTooEarly(t *testing.T) {
	for p, words := range whole(t) {
		w := bbm.New()
		p.tell(w, 0, leads[p.level])
		w.Space(p.asid)
		p.write(t, w, words[0], 0)
		stands(t, w, false, 1)
		p.write(t, w, 0, words[1])
		stands(t, w, true, 0)
	}
}

// P6.1: which valid words may come where nothing was told.
func TestLastValidWord(t *testing.T) {
	page := func(d api.Desc) uint64 { d.Kind = api.KindPage; return encode(t, 3, d) }
	block := func(d api.Desc) uint64 { d.Kind = api.KindBlock; return encode(t, 2, d) }
	table := encode(t, 2, api.Desc{Kind: api.KindTable, Frame: 8})
	plain := page(api.Desc{Frame: 8, Write: true})
	for _, c := range []struct {
		name      string
		level     int
		last, new uint64
		broken    bool
	}{
		{"the same page", 3, plain, plain, false},
		{"seen", 3, plain, page(api.Desc{Frame: 8, Write: true, Seen: true}), false},
		{"soft", 3, plain, page(api.Desc{Frame: 8, Write: true, Soft: 7}), false},
		{"not seen, other soft", 3, page(api.Desc{Frame: 8, Write: true, Seen: true, Soft: 3}), page(api.Desc{Frame: 8, Write: true, Soft: 4}), false},
		{"another frame", 3, plain, page(api.Desc{Frame: 9, Write: true}), true},
		{"no write", 3, plain, page(api.Desc{Frame: 8}), true},
		{"exec", 3, plain, page(api.Desc{Frame: 8, Write: true, Exec: true}), true},
		{"folded", 3, plain, page(api.Desc{Frame: 8, Write: true, Fold: true}), true},
		{"unfolded", 3, page(api.Desc{Frame: 8, Write: true, Fold: true}), plain, true},
		{"the same table", 0, table, table, false},
		{"another table", 0, table, table + 1<<12, true},
		{"the same block", 2, block(api.Desc{Frame: 8}), block(api.Desc{Frame: 8}), false},
		{"the same block, seen", 2, block(api.Desc{Frame: 8}), block(api.Desc{Frame: 8, Seen: true, Soft: 2}), false},
		{"another block", 2, block(api.Desc{Frame: 8}), block(api.Desc{Frame: 16}), true},
		{"a block to a table", 2, block(api.Desc{Frame: 8}), table, true},
		{"a table to a block", 2, table, block(api.Desc{Frame: 8}), true},
		{"a reserved one", 3, plain, 1, true},
		{"behind a reserved one", 3, 1, plain, true},
		{"two reserved ones", 3, 1, 3, true},
		{"two reserved ones, but for Seen", 3, 1, 1 | 1<<10, true},
		{"a reserved one itself", 3, 1, 1, true},
		{"a table, but for Seen, which it hasn't", 1, table, table | 1<<10, true},
	} {
		for _, between := range [][]uint64{{0}, {10}, {0, 10, 0}, {1 << 63, 2}} {
			w := bbm.New()
			p := at{1, c.level, 5, 0, 1024}
			old := c.last
			for _, new := range between {
				p.write(t, w, old, new)
				old = new
				stands(t, w, false, 1)
			}
			p.write(t, w, old, c.new)
			if w.Broken() != c.broken || w.Open() != 0 {
				t.Errorf("%s: broken %v, open %d", c.name, w.Broken(), w.Open())
			}
			w = bbm.New()
			p.write(t, w, c.last, 0)
			w.Space(1)
			p.write(t, w, 0, c.new)
			stands(t, w, false, 0)
		}
	}
}

// P6.1: behind a valid word the place isn't open any more, whether it was told or not.
func TestClosedIsClosed(t *testing.T) {
	for p, words := range whole(t) {
		w := bbm.New()
		p.write(t, w, words[0], 0)
		p.write(t, w, 0, words[0])
		stands(t, w, false, 0)
		p.write(t, w, 0, words[1])
		stands(t, w, false, 0)
	}
}

// P6.1: one that is opened again has another last word, and nothing of it is told.
func TestOpenedAgain(t *testing.T) {
	for p, words := range whole(t) {
		size := leads[p.level]
		for _, c := range []struct {
			new    uint64
			broken bool
		}{{words[0], true}, {words[1], false}} {
			w := bbm.New()
			p.write(t, w, words[0], 0)
			p.tell(w, 0, size-1)
			p.write(t, w, words[1], 0)
			if size > 1 { // with what was told ahead of it, this would be all
				p.tell(w, size-1, size)
			}
			stands(t, w, false, 1)
			p.write(t, w, 0, c.new)
			stands(t, w, c.broken, 0)
		}
		w := bbm.New()
		p.write(t, w, words[0], 0)
		p.tell(w, 0, size)
		p.write(t, w, words[0], 0)
		stands(t, w, false, 1)
		p.tell(w, 1, size)
		if size > 1 {
			stands(t, w, false, 1)
		}
		p.tell(w, 0, 1)
		stands(t, w, false, 0)
	}
}

// P6.1: one that is opened again for another space is to be told for that one.
func TestOpenedAgainElsewhere(t *testing.T) {
	w := bbm.New()
	at{1, 2, 5, 0, 8}.write(t, w, 0x1003, 0)
	at{2, 3, 5, 0, 77}.write(t, w, page(t, 2), 0)
	stands(t, w, false, 1)
	w.Space(1)
	w.Told(1, 77)
	w.Told(2, 8)
	stands(t, w, false, 1)
	w.Told(2, 77)
	stands(t, w, false, 0)
}

// P6.1: words that neither open nor close leave what is open as it is.
func TestOtherWritesLeaveItOpen(t *testing.T) {
	p := at{1, 2, 5, 0, 8}
	last, other := uint64(0x1003), uint64(0x2003)
	w := bbm.New()
	p.write(t, w, last, 0)
	p.tell(w, 0, 4)
	p.write(t, w, 0, 0)
	p.write(t, w, 0, 10)
	p.write(t, w, 10, 0)
	p.write(t, w, other, other)
	stands(t, w, false, 1)
	p.tell(w, 4, 7)
	stands(t, w, false, 1)
	p.write(t, w, 0, last)
	stands(t, w, false, 0)
	p.write(t, w, last, 0)
	p.write(t, w, last, other)
	stands(t, w, true, 1)
	p.tell(w, 0, 8)
	stands(t, w, true, 0)
}

// P6.1: a place is its table and its number: others stand for themselves.
func TestPlacesStandForThemselves(t *testing.T) {
	two, three := page(t, 2), page(t, 3)
	w := bbm.New()
	at{1, 3, 5, 0, 8}.write(t, w, two, 0)
	for _, p := range []at{{1, 3, 5, 1, 8}, {1, 3, 6, 0, 8}, {1, 3, 0, 5, 8}, {1, 3, 4, 0, 8}} {
		p.write(t, w, 0, three)
		stands(t, w, false, 1)
	}
	at{1, 3, 5, 1, 9}.write(t, w, three, 0)
	at{1, 3, 6, 0, 8}.write(t, w, three, 0)
	at{2, 3, 7, 0, 8}.write(t, w, three, 0)
	stands(t, w, false, 4)
	w.Told(1, 8)
	stands(t, w, false, 2)
	at{1, 3, 6, 0, 8}.write(t, w, 0, two)
	at{1, 3, 5, 0, 8}.write(t, w, 0, three)
	stands(t, w, false, 2)
	at{2, 3, 7, 0, 8}.write(t, w, 0, two)
	stands(t, w, true, 1)
}

// P6.1: the pages to be told are those of the opening, whatever is written then.
func TestWrittenOtherwiseThanOpened(t *testing.T) {
	two, three := page(t, 2), page(t, 3)
	table := uint64(0x2003)
	opening := at{1, 3, 5, 0, 8}
	for _, p := range []at{{1, 2, 5, 0, 8}, {2, 3, 5, 0, 8}, {1, 3, 5, 0, 9}, {2, 0, 5, 0, 512}} {
		w := bbm.New()
		opening.write(t, w, three, 0)
		p.tell(w, 1, leads[p.level])
		if p.asid != 1 || p.first != 8 {
			w.Told(p.asid, p.first)
		}
		stands(t, w, false, 1)
		p.write(t, w, 0, table|user(p.level))
		stands(t, w, true, 0)
		w = bbm.New()
		opening.write(t, w, three, 0)
		w.Told(1, 8)
		p.write(t, w, 0, table|user(p.level))
		stands(t, w, false, 0)
	}
	// For another space, or with another first page, the last valid word is still the last one.
	for _, p := range []at{{2, 3, 5, 0, 8}, {1, 3, 5, 0, 9}} {
		w := bbm.New()
		opening.write(t, w, two, 0)
		p.write(t, w, 0, two|1<<10)
		stands(t, w, false, 0)
	}
}

// user is the bit that a page's word has beside a table's.
func user(level int) uint64 {
	if level == 3 {
		return 1 << 6
	}
	return 0
}

// P6.1: both words are read at the level of the write that closes.
func TestReadAtTheLevelOfTheWrite(t *testing.T) {
	two := page(t, 2)
	table := uint64(0x2003)
	for _, c := range []struct {
		opened, closed int
		last, new      uint64
		broken         bool
	}{
		{2, 3, two, two | 1<<10, false}, // reserved where it was opened
		{3, 2, two, two | 1<<10, true},  // reserved where it is closed
		{3, 2, two, two, true},
		{0, 3, two, two, false},
		{0, 2, table, table, false},
		{2, 0, table, table, false},
		{3, 1, table, table, false},
		{1, 3, table, table, true},
	} {
		w := bbm.New()
		at{1, c.opened, 5, 0, 0}.write(t, w, c.last, 0)
		at{1, c.closed, 5, 0, 0}.write(t, w, 0, c.new)
		if w.Broken() != c.broken || w.Open() != 0 {
			t.Errorf("%+v: broken %v, open %d", c, w.Broken(), w.Open())
		}
	}
}

// P6.2: of all levels, and of that space alone.
func TestSpace(t *testing.T) {
	w := bbm.New()
	all := whole(t)
	n := map[int]int{}
	for p, words := range all {
		p.place = p.level
		p.write(t, w, words[0], 0)
		n[p.asid]++
	}
	open := len(all)
	for _, asid := range []int{-1, 2, 254, 256, math.MaxInt, math.MinInt} {
		w.Space(asid)
		stands(t, w, false, open)
	}
	for _, asid := range []int{1, 255, 0} {
		w.Space(asid)
		open -= n[asid]
		stands(t, w, false, open)
		w.Space(asid)
		stands(t, w, false, open)
	}
	for p, words := range all {
		p.place = p.level
		p.write(t, w, 0, words[1])
	}
	stands(t, w, false, 0)
}

// P6.2, P6.4: behind Forget any valid word may come; other tables stay.
func TestForget(t *testing.T) {
	two, three := page(t, 2), page(t, 3)
	w := bbm.New()
	for _, table := range []int{0, 5, 6, 511} {
		for place := range 8 {
			at{table & 255, 3, table, place, place}.write(t, w, two, 0)
		}
	}
	stands(t, w, false, 32)
	for _, table := range []int{-1, 1, 4, 7, 510, 512, 1 << 32, math.MaxInt, math.MinInt} {
		w.Forget(table)
		stands(t, w, false, 32)
	}
	for i, table := range []int{5, 511, 0} {
		w.Forget(table)
		stands(t, w, false, 32-8*(i+1))
		for place := range 8 {
			at{table & 255, 3, table, place, place}.write(t, w, 0, three)
		}
		stands(t, w, false, 32-8*(i+1))
	}
	at{6, 3, 6, 7, 7}.write(t, w, 0, three)
	stands(t, w, true, 7)
	w.Forget(6)
	stands(t, w, true, 0)
}

// P6.4
func TestBrokenStays(t *testing.T) {
	p := at{1, 3, 5, 0, 8}
	two, three := page(t, 2), page(t, 3)
	w := bbm.New()
	p.write(t, w, two, 0)
	p.write(t, w, 0, three)
	for _, act := range []func(){
		func() { p.write(t, w, three, 0) },
		func() { w.Told(1, 8) },
		func() { p.write(t, w, 0, two) },
		func() { p.write(t, w, two, two) },
		func() { w.Space(1) },
		func() { w.Forget(5) },
		func() { w.Write(-1, 0, 0, 0, 0, 0, 0) },
	} {
		act()
		if !w.Broken() {
			t.Fatal("whole again")
		}
	}
}

// A folded run: each of its words for itself, once none is valid and all its pages were told.
func TestFoldedRun(t *testing.T) {
	word := func(frame int, fold bool) uint64 {
		return encode(t, 3, api.Desc{Kind: api.KindPage, Frame: frame, Fold: fold})
	}
	w := bbm.New()
	for i := range 4 {
		at{1, 3, 5, i, i}.write(t, w, word(8+i, true), 0)
	}
	stands(t, w, false, 4)
	at{first: 0, asid: 1}.tell(w, 0, 4)
	for i := range 4 {
		at{1, 3, 5, i, i}.write(t, w, 0, word(8+i, false))
	}
	stands(t, w, false, 0)
	at{1, 3, 5, 2, 2}.write(t, w, word(10, false), word(10, true))
	stands(t, w, true, 0)
}

// P6.4: who breaks ahead of making, and tells all pages, breaks nothing, in whatever order places are gone through.
func TestBreakBeforeMake(t *testing.T) {
	r := rand.New(rand.NewSource(6))
	w := bbm.New()
	words := map[at]uint64{}
	all := whole(t)
	for range 400 {
		for p, pair := range all {
			p.place = p.level
			old := words[p]
			if old&1 == 0 {
				words[p] = pair[r.Intn(2)]
				p.write(t, w, old, words[p])
				continue
			}
			words[p] = []uint64{0, 10}[r.Intn(2)]
			p.write(t, w, old, words[p])
			if r.Intn(2) == 0 {
				w.Space(p.asid)
				continue
			}
			for _, i := range r.Perm(leads[p.level]) {
				w.Told(p.asid, p.first+i)
			}
		}
	}
	stands(t, w, false, 0)
}

// model is a watch by the chapter's words alone: places stay open until a valid word comes.
type model struct {
	open   map[[2]int]*opened
	broken bool
}

type opened struct {
	at   at
	last uint64
	told map[int]int
}

func (o *opened) tell(page int) {
	if page >= o.at.first && page < o.at.first+leads[o.at.level] {
		o.told[page] = 1
	}
}

func (o *opened) allTold() bool { return len(o.told) == leads[o.at.level] }

// sameButMarks reads both words at a level, neither being reserved.
func sameButMarks(level int, a, b uint64) bool {
	x, _ := pte.Decode(level, a)
	y, _ := pte.Decode(level, b)
	return x.Kind != api.KindBad && y.Kind != api.KindBad &&
		x.Kind == y.Kind && x.Frame == y.Frame && x.Write == y.Write && x.Exec == y.Exec && x.Fold == y.Fold
}

func (m *model) write(p at, old, new uint64) {
	if may, _ := pte.Change(p.level, old, new); !may {
		m.broken = true
	}
	key := [2]int{p.table, p.place}
	switch o := m.open[key]; {
	case old%2 == 1 && new%2 == 0:
		m.open[key] = &opened{p, old, map[int]int{}}
	case old%2 == 0 && new%2 == 1 && o != nil:
		if !o.allTold() && !sameButMarks(p.level, o.last, new) {
			m.broken = true
		}
		delete(m.open, key)
	}
}

func (m *model) told(asid, from, to int) {
	for _, o := range m.open {
		for page := from; page < to && o.at.asid == asid; page++ {
			o.tell(page)
		}
	}
}

func (m *model) forget(table int) {
	for key := range m.open {
		if key[0] == table {
			delete(m.open, key)
		}
	}
}

func (m *model) notTold() int {
	n := 0
	for _, o := range m.open {
		if !o.allTold() {
			n++
		}
	}
	return n
}

// someWord is one of few, so that two are often alike.
func someWord(t *testing.T, r *rand.Rand) uint64 {
	words := []uint64{
		0, 0, 0, 0, 10, 2, 1, page(t, 2), page(t, 2), page(t, 2) | 1<<10, page(t, 2) | 1<<55, page(t, 3), page(t, 2) | 1<<7, page(t, 2) | 1<<52,
		0x2003, 0x2003, 0x3003, 0x8041, 0x8041 | 1<<10, 0x10041,
	}
	return words[r.Intn(len(words))]
}

func someAt(r *rand.Rand) at {
	level := []int{0, 1, 2, 2, 3, 3, 3, 3}[r.Intn(8)]
	return at{r.Intn(2), level, r.Intn(2), r.Intn(3), r.Intn(2) * leads[level]}
}

// P6.1 to P6.3: many watches, each held against the model after every call.
func TestManyCalls(t *testing.T) {
	r := rand.New(rand.NewSource(66))
	var broken, most int
	for range 1500 {
		w, m := bbm.New(), &model{open: map[[2]int]*opened{}}
		for range 60 {
			p := someAt(r)
			switch r.Intn(16) {
			case 0:
				w.Space(p.asid)
				m.told(p.asid, 0, 4096)
			case 1:
				w.Forget(p.table)
				m.forget(p.table)
			case 2, 3, 4, 5, 6:
				from := p.first
				for page := from; page < from+leads[p.level]; page++ {
					w.Told(p.asid, page)
				}
				m.told(p.asid, from, from+leads[p.level])
			default:
				old, new := someWord(t, r), someWord(t, r)
				if r.Intn(8) > 0 && old%2 == 1 && new%2 == 1 { // most of such break at once
					new = 0
				}
				p.write(t, w, old, new)
				m.write(p, old, new)
			}
			stands(t, w, m.broken, m.notTold())
			most = max(most, w.Open())
		}
		if m.broken {
			broken++
		}
	}
	if broken < 200 || broken > 1490 || most < 5 {
		t.Error("too few of one kind", broken, most)
	}
}

// P1 of the whole.
func TestNoCallPanics(t *testing.T) {
	w := bbm.New()
	words := []uint64{0, 1, 3, page(t, 2), math.MaxUint64, math.MaxUint64 - 1}
	for _, a := range oddNumbers {
		for _, b := range oddNumbers {
			for _, old := range words {
				for _, new := range words {
					w.Write(a, b, a, b, a, old, new)
					w.Write(b, 3, 5, 7, a, old, new)
					w.Write(1, a, 5, 7, b, old, new)
				}
			}
			w.Told(a, b)
		}
		w.Space(a)
		w.Forget(a)
	}
}
