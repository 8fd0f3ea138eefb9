package area_test

import (
	"math"
	"math/rand"
	"slices"
	"testing"

	"pavior/api"
	"pavior/area"
)

var (
	oddNumbers = []int{
		math.MinInt, math.MinInt + 1, -1 << 32, -4097, -4096, -64, -2, -1, 0, 1, 2, 3, 63, 64, 65, 2048, 4094, 4095, 4096,
		4097, 8192, 1 << 32, 1<<32 + 1, math.MaxInt - 4096, math.MaxInt - 1, math.MaxInt,
	}
	none  = cell{}
	plain = cell{has: true}
	write = cell{has: true, rights: api.Rights{Write: true}}
	exec  = cell{has: true, rights: api.Rights{Exec: true}}
	both  = cell{has: true, rights: api.Rights{Write: true, Exec: true}}
	huge  = cell{has: true, huge: true}
)

// cell is what a page has.
type cell struct {
	has    bool
	rights api.Rights
	huge   bool
}

// model knows of each page what it has; the list follows from that.
type model [api.Pages]cell

func modelOf(l []api.Area) *model {
	m := &model{}
	for _, a := range l {
		m.lay(a)
	}
	return m
}

func (m *model) lay(a api.Area) {
	for p := a.From; p < a.To; p++ {
		m[p] = cell{true, a.Rights, a.Huge}
	}
}

func (m *model) cut(from, to int) {
	clear(m[from:to])
}

func (m *model) change(from, to int, r api.Rights) {
	for p := from; p < to; p++ {
		m[p].rights = r
	}
}

func (m *model) advise(from, to int, huge bool) {
	for p := from; p < to; p++ {
		m[p].huge = huge
	}
}

// lacks tells whether one of some pages has no area.
func (m *model) lacks(from, to int) bool {
	return slices.Contains(m[from:to], none)
}

func (m *model) list() []api.Area {
	var l []api.Area
	for p := 0; p < len(m); {
		from := p
		for p++; p < len(m) && m[p] == m[from]; p++ {
		}
		if m[from].has {
			l = append(l, api.Area{From: from, To: p, Rights: m[from].rights, Huge: m[from].huge})
		}
	}
	return l
}

// room tries one first page after the other.
func (m *model) room(pages int) (int, error) {
	if pages < 1 {
		return 0, api.ErrArg
	}
	for p := range m {
		if pages <= len(m)-p && !slices.ContainsFunc(m[p:p+pages], func(c cell) bool { return c.has }) {
			return p, nil
		}
	}
	return 0, api.ErrFull
}

func of(from, to int, c cell) api.Area {
	return api.Area{From: from, To: to, Rights: c.rights, Huge: c.huge}
}

func maySpan(from, to int) bool {
	return from >= 0 && from < to && to <= 4096
}

// many is a list of n areas of a page each, every other page from one on.
func many(first, n int) []api.Area {
	var l []api.Area
	for i := range n {
		l = append(l, of(first+2*i, first+2*i+1, plain))
	}
	return l
}

// is holds an answer against a list.
func is(t *testing.T, got []api.Area, err error, want ...api.Area) {
	t.Helper()
	if err != nil || !slices.Equal(got, want) {
		t.Fatalf("%v, %v, want %v", got, err, want)
	}
}

func fails(t *testing.T, got []api.Area, err, want error) {
	t.Helper()
	if got != nil || err != want {
		t.Fatalf("%v, %v, want %v", got, err, want)
	}
}

// agrees holds an answer, or its error, against what a model came to, or its error.
func agrees(t *testing.T, got []api.Area, err error, m *model, want error) {
	t.Helper()
	list := m.list()
	if want == nil && len(list) > 64 {
		want = api.ErrFull
	}
	if want != nil {
		fails(t, got, err, want)
		return
	}
	is(t, got, err, list...)
	if err := area.Check(got); err != nil {
		t.Fatalf("%v may not be: %v", got, err)
	}
}

// goodLists are some that may be.
func goodLists() [][]api.Area {
	return [][]api.Area{
		nil,
		{},
		{of(0, 4096, plain)},
		{of(0, 1, both)},
		{of(4095, 4096, huge)},
		{of(0, 1, plain), of(4095, 4096, plain)},
		{of(0, 4, plain), of(5, 6, plain)},
		{of(0, 4, plain), of(4, 6, write)},
		{of(0, 4, plain), of(4, 6, exec)},
		{of(0, 4, plain), of(4, 6, huge)},
		{of(0, 4, write), of(4, 6, exec), of(6, 4096, both)},
		{of(3, 4, plain), of(4, 5, write), of(5, 6, plain), of(8, 9, plain)},
		many(0, 64),
		many(4096-127, 64),
	}
}

// badLists are some that may not be.
func badLists() [][]api.Area {
	l := [][]api.Area{
		{of(0, 0, plain)},
		{of(4096, 4096, plain)},
		{of(5, 4, plain)},
		{of(-1, 4, plain)},
		{of(-4, -1, plain)},
		{of(0, 4097, plain)},
		{of(4096, 4097, plain)},
		{of(math.MinInt, math.MaxInt, plain)},
		{of(math.MaxInt, math.MinInt, plain)},
		{of(0, math.MaxInt, plain)},
		{of(math.MinInt, 1, plain)},
		{of(0, 4, plain), of(4, 6, plain)},
		{of(0, 4, both), of(4, 6, both)},
		{of(0, 4, huge), of(4, 6, huge)},
		{of(0, 4, plain), of(3, 6, write)},
		{of(0, 4, plain), of(0, 4, plain)},
		{of(0, 4, plain), of(1, 2, write)},
		{of(4, 6, plain), of(0, 4, write)},
		{of(6, 8, plain), of(0, 4, plain)},
		{of(0, 2, plain), of(3, 3, plain)},
		{of(0, 2, plain), of(4, 3, plain)},
		{of(3, 3, plain), of(4, 5, plain)},
		{of(0, 2, plain), of(4, 6, plain), of(6, 8, plain), of(10, 12, plain)},
		{of(0, 2, plain), of(4, 6, plain), of(5, 8, write)},
		{of(0, 2, plain), of(4, 6, plain), of(8, 4097, plain)},
		many(0, 65),
		many(0, 2048),
		make([]api.Area, 1),
		make([]api.Area, 65),
	}
	// A fault in the last area of as many as there may be.
	last := many(0, 64)
	last[63].To = last[63].From
	return append(l, last)
}

// P9.1
func TestCheck(t *testing.T) {
	for _, l := range goodLists() {
		if err := area.Check(l); err != nil {
			t.Errorf("%v: %v", l, err)
		}
	}
	for _, l := range badLists() {
		if err := area.Check(l); err != api.ErrArg {
			t.Errorf("%v: %v", l, err)
		}
	}
}

// P9.1: two areas from odd numbers to odd numbers, of unlike and of like kinds.
func TestCheckOfTwo(t *testing.T) {
	numbers := []int{-1, 0, 1, 2, 3, 4095, 4096, 4097}
	for _, a := range numbers {
		for _, b := range numbers {
			for _, c := range numbers {
				for _, d := range numbers {
					may := maySpan(a, b) && maySpan(c, d) && b <= c
					checks(t, may && b != c, of(a, b, write), of(c, d, write))
					checks(t, may, of(a, b, write), of(c, d, exec))
					checks(t, may, of(a, b, plain), of(c, d, huge))
				}
			}
		}
	}
}

func checks(t *testing.T, may bool, l ...api.Area) {
	t.Helper()
	if err := area.Check(l); may && err != nil || !may && err != api.ErrArg {
		t.Fatalf("%v: %v", l, err)
	}
}

// P9.1: all calls of a list that may not be, ahead of whatever else they would tell.
func TestCallsOfBadLists(t *testing.T) {
	for _, l := range badLists() {
		for _, n := range []int{-1, 0, 1, 5000} {
			if a, err := area.Find(l, n); a != (api.Area{}) || err != api.ErrArg {
				t.Errorf("Find in %v: %v, %v", l, a, err)
			}
			if p, err := area.Room(l, n); p != 0 || err != api.ErrArg {
				t.Errorf("Room in %v: %v, %v", l, p, err)
			}
		}
		for _, s := range [][2]int{{0, 1}, {0, 4096}, {4000, 4090}, {2, 1}} {
			got, err := area.Lay(l, of(s[0], s[1], both))
			fails(t, got, err, api.ErrArg)
			got, err = area.Cut(l, s[0], s[1])
			fails(t, got, err, api.ErrArg)
			got, err = area.Change(l, s[0], s[1], api.Rights{})
			fails(t, got, err, api.ErrArg)
			got, err = area.Advise(l, s[0], s[1], true)
			fails(t, got, err, api.ErrArg)
		}
	}
}

// P9.2
func TestFind(t *testing.T) {
	for _, l := range goodLists() {
		for p := range api.Pages {
			finds(t, l, p)
		}
		for _, p := range oddNumbers {
			finds(t, l, p)
		}
	}
}

// finds holds what is found against the list, area by area.
func finds(t *testing.T, l []api.Area, page int) {
	t.Helper()
	var want api.Area
	var wantErr error = api.ErrNone
	for _, a := range l {
		if page >= a.From && page < a.To {
			want, wantErr = a, nil
		}
	}
	if a, err := area.Find(l, page); a != want || err != wantErr {
		t.Fatalf("Find(%v, %d): %v, %v, want %v, %v", l, page, a, err, want, wantErr)
	}
}

// The chapter's examples.
func TestExamples(t *testing.T) {
	l, err := area.Lay([]api.Area{of(0, 4, plain)}, of(4, 6, plain))
	is(t, l, err, of(0, 6, plain))
	cut, err := area.Cut(l, 2, 4)
	is(t, cut, err, of(0, 2, plain), of(4, 6, plain))
	if p, err := area.Room(l, 3); p != 6 || err != nil {
		t.Error(p, err)
	}
}

// P9.3
func TestLay(t *testing.T) {
	l := []api.Area{of(2, 4, plain), of(4, 6, write), of(8, 10, plain)}
	for _, c := range []struct {
		a    api.Area
		want []api.Area
	}{
		{of(0, 1, plain), []api.Area{of(0, 1, plain), of(2, 4, plain), of(4, 6, write), of(8, 10, plain)}},
		{of(0, 2, plain), []api.Area{of(0, 4, plain), of(4, 6, write), of(8, 10, plain)}},
		{of(0, 2, huge), []api.Area{of(0, 2, huge), of(2, 4, plain), of(4, 6, write), of(8, 10, plain)}},
		{of(6, 8, plain), []api.Area{of(2, 4, plain), of(4, 6, write), of(6, 10, plain)}},
		{of(6, 8, write), []api.Area{of(2, 4, plain), of(4, 8, write), of(8, 10, plain)}},
		{of(4, 8, plain), []api.Area{of(2, 10, plain)}},
		{of(3, 9, plain), []api.Area{of(2, 10, plain)}},
		{of(3, 9, exec), []api.Area{of(2, 3, plain), of(3, 9, exec), of(9, 10, plain)}},
		{of(3, 5, both), []api.Area{of(2, 3, plain), of(3, 5, both), of(5, 6, write), of(8, 10, plain)}},
		{of(2, 3, plain), []api.Area{of(2, 4, plain), of(4, 6, write), of(8, 10, plain)}},
		{of(8, 9, huge), []api.Area{of(2, 4, plain), of(4, 6, write), of(8, 9, huge), of(9, 10, plain)}},
		{of(10, 4096, plain), []api.Area{of(2, 4, plain), of(4, 6, write), of(8, 4096, plain)}},
		{of(0, 4096, huge), []api.Area{of(0, 4096, huge)}},
	} {
		got, err := area.Lay(l, c.a)
		is(t, got, err, c.want...)
	}
	got, err := area.Lay(nil, of(7, 9, both))
	is(t, got, err, of(7, 9, both))
}

// P9.3
func TestCut(t *testing.T) {
	l := []api.Area{of(2, 4, plain), of(4, 6, write), of(8, 10, huge)}
	for _, c := range []struct {
		from, to int
		want     []api.Area
	}{
		{0, 2, l},
		{6, 8, l},
		{10, 4096, l},
		{0, 4096, nil},
		{2, 10, nil},
		{2, 3, []api.Area{of(3, 4, plain), of(4, 6, write), of(8, 10, huge)}},
		{3, 5, []api.Area{of(2, 3, plain), of(5, 6, write), of(8, 10, huge)}},
		{3, 9, []api.Area{of(2, 3, plain), of(9, 10, huge)}},
		{4, 6, []api.Area{of(2, 4, plain), of(8, 10, huge)}},
		{9, 4096, []api.Area{of(2, 4, plain), of(4, 6, write), of(8, 9, huge)}},
	} {
		got, err := area.Cut(l, c.from, c.to)
		is(t, got, err, c.want...)
	}
	got, err := area.Cut(nil, 0, 4096)
	is(t, got, err)
	got, err = area.Cut([]api.Area{of(0, 4096, both)}, 1, 4095)
	is(t, got, err, of(0, 1, both), of(4095, 4096, both))
}

// P9.3: Huge stays as it was.
func TestChange(t *testing.T) {
	l := []api.Area{of(2, 4, plain), of(4, 6, huge), of(6, 8, write), of(9, 10, plain)}
	got, err := area.Change(l, 3, 7, api.Rights{Write: true})
	hugeWrite := cell{true, api.Rights{Write: true}, true}
	is(t, got, err, of(2, 3, plain), of(3, 4, write), of(4, 6, hugeWrite), of(6, 8, write), of(9, 10, plain))
	got, err = area.Change(got, 2, 8, api.Rights{})
	is(t, got, err, of(2, 4, plain), of(4, 6, huge), of(6, 8, plain), of(9, 10, plain))
	got, err = area.Change(got, 9, 10, api.Rights{Write: true, Exec: true})
	is(t, got, err, of(2, 4, plain), of(4, 6, huge), of(6, 8, plain), of(9, 10, both))
	got, err = area.Change([]api.Area{of(0, 4096, both)}, 0, 4096, api.Rights{Exec: true})
	is(t, got, err, of(0, 4096, exec))
}

// P9.3: Rights stay as they were.
func TestAdvise(t *testing.T) {
	l := []api.Area{of(2, 4, plain), of(4, 6, huge), of(6, 8, write), of(9, 10, plain)}
	got, err := area.Advise(l, 3, 7, true)
	hugeWrite := cell{true, api.Rights{Write: true}, true}
	is(t, got, err, of(2, 3, plain), of(3, 6, huge), of(6, 7, hugeWrite), of(7, 8, write), of(9, 10, plain))
	got, err = area.Advise(got, 2, 8, false)
	is(t, got, err, of(2, 6, plain), of(6, 8, write), of(9, 10, plain))
	got, err = area.Advise([]api.Area{of(0, 4096, both)}, 4095, 4096, true)
	is(t, got, err, of(0, 4095, both), of(4095, 4096, cell{true, both.rights, true}))
}

// P9.3: a page without an area, ahead of, between and behind those that have one.
func TestPagesWithoutArea(t *testing.T) {
	l := []api.Area{of(2, 4, plain), of(4, 6, write), of(7, 9, plain)}
	for _, s := range [][2]int{{0, 1}, {1, 3}, {1, 2}, {5, 7}, {6, 7}, {5, 8}, {6, 9}, {2, 9}, {8, 10}, {9, 10}, {0, 4096}, {4095, 4096}} {
		got, err := area.Change(l, s[0], s[1], api.Rights{})
		fails(t, got, err, api.ErrNone)
		got, err = area.Advise(l, s[0], s[1], true)
		fails(t, got, err, api.ErrNone)
		got, err = area.Change(nil, s[0], s[1], api.Rights{})
		fails(t, got, err, api.ErrNone)
		got, err = area.Advise([]api.Area{}, s[0], s[1], false)
		fails(t, got, err, api.ErrNone)
	}
	got, err := area.Change(l, 2, 6, exec.rights)
	is(t, got, err, of(2, 6, exec), of(7, 9, plain))
	got, err = area.Change(l, 7, 9, exec.rights)
	is(t, got, err, of(2, 4, plain), of(4, 6, write), of(7, 9, exec))
}

// P9.3: pages that may not be an area's are told ahead of there being no area, and of there being no more room.
func TestSpansThatMayNotBe(t *testing.T) {
	for _, l := range [][]api.Area{nil, {of(0, 4096, plain)}, many(0, 64)} {
		for _, from := range oddNumbers {
			for _, to := range oddNumbers {
				if maySpan(from, to) {
					continue
				}
				got, err := area.Lay(l, of(from, to, both))
				fails(t, got, err, api.ErrArg)
				got, err = area.Cut(l, from, to)
				fails(t, got, err, api.ErrArg)
				got, err = area.Change(l, from, to, api.Rights{})
				fails(t, got, err, api.ErrArg)
				got, err = area.Advise(l, from, to, true)
				fails(t, got, err, api.ErrArg)
			}
		}
	}
}

// P9.3: 64 areas are as many as there may be, 65 are too many.
func TestFullOfLay(t *testing.T) {
	l := many(1, 63)
	for _, a := range []api.Area{of(0, 1, both), of(300, 301, plain), of(2, 3, exec)} {
		got, err := area.Lay(l, a)
		if err != nil || len(got) != 64 {
			t.Fatal(got, err)
		}
	}
	l = many(1, 64)
	for _, a := range []api.Area{of(0, 1, both), of(300, 301, plain), of(2, 3, exec), of(128, 4096, huge)} {
		got, err := area.Lay(l, a)
		fails(t, got, err, api.ErrFull)
	}
	got, err := area.Lay(l, of(128, 4096, plain))
	is(t, got, err, append(many(1, 63), of(127, 4096, plain))...)
	got, err = area.Lay(l, of(0, 1, plain))
	is(t, got, err, append([]api.Area{of(0, 2, plain)}, many(3, 63)...)...)
	got, err = area.Lay(l, of(0, 2, exec))
	is(t, got, err, append([]api.Area{of(0, 2, exec)}, many(3, 63)...)...)
}

// P9.3: what is cut, changed or advised within one area makes it two or three.
func TestFullOfParts(t *testing.T) {
	for _, c := range []struct{ n, from, to, parts int }{
		{61, 1000, 1001, 3}, {62, 1000, 1001, 3}, {62, 999, 1001, 2}, {62, 1000, 1003, 2}, {62, 999, 1003, 1}, {63, 999, 1003, 1},
		{61, 999, 1000, 2},
	} {
		l := append(many(0, c.n), of(999, 1003, plain))
		got, err := area.Change(l, c.from, c.to, api.Rights{Exec: true})
		agreesIfRoom(t, got, err, c.n+c.parts)
		got, err = area.Advise(l, c.from, c.to, true)
		agreesIfRoom(t, got, err, c.n+c.parts)
		got, err = area.Cut(l, c.from, c.to)
		agreesIfRoom(t, got, err, c.n+c.parts-1)
	}
	l := append(many(0, 63), of(999, 1003, plain))
	got, err := area.Change(l, 1000, 1001, api.Rights{Exec: true})
	fails(t, got, err, api.ErrFull)
	got, err = area.Change(l, 1000, 1003, api.Rights{Exec: true})
	fails(t, got, err, api.ErrFull)
	got, err = area.Advise(l, 1000, 1001, true)
	fails(t, got, err, api.ErrFull)
	got, err = area.Cut(l, 1000, 1001)
	fails(t, got, err, api.ErrFull)
	got, err = area.Change(l, 1000, 1001, api.Rights{})
	is(t, got, err, l...)
}

func agreesIfRoom(t *testing.T, got []api.Area, err error, n int) {
	t.Helper()
	if n > 64 {
		fails(t, got, err, api.ErrFull)
	} else if err != nil || len(got) != n {
		t.Fatalf("%d areas, %v, want %d", len(got), err, n)
	}
}

// P9.3: a page without an area is told ahead of there being too many.
func TestNoneAheadOfFull(t *testing.T) {
	l := append(many(0, 63), of(999, 1003, plain))
	got, err := area.Change(l, 1001, 1005, api.Rights{Exec: true})
	fails(t, got, err, api.ErrNone)
	got, err = area.Advise(l, 998, 1001, true)
	fails(t, got, err, api.ErrNone)
}

// P9.2, P9.3, P9.4: all lists of a few pages, of some kinds of areas, at the lowest, the highest and other pages, and all
// spans of these pages.
func TestAllOfFewPages(t *testing.T) {
	const pages = 4
	kinds := []cell{none, plain, write, huge}
	for _, base := range []int{0, 2046, 4096 - pages} {
		for n := range 1 << (2 * pages) {
			m := &model{}
			for p := range pages {
				m[base+p] = kinds[n>>(2*p)&3]
			}
			for from := range pages {
				for to := from + 1; to <= pages; to++ {
					callsAgree(t, m, base+from, base+to)
				}
			}
		}
	}
}

// callsAgree holds each call of a span against the model.
func callsAgree(t *testing.T, m *model, from, to int) {
	t.Helper()
	l := m.list()
	var missing error
	if m.lacks(from, to) {
		missing = api.ErrNone
	}
	laid := *m
	laid.lay(of(from, to, write))
	got, err := area.Lay(l, of(from, to, write))
	agrees(t, got, err, &laid, nil)
	cut := *m
	cut.cut(from, to)
	got, err = area.Cut(l, from, to)
	agrees(t, got, err, &cut, nil)
	changed := *m
	changed.change(from, to, write.rights)
	got, err = area.Change(l, from, to, write.rights)
	agrees(t, got, err, &changed, missing)
	advised := *m
	advised.advise(from, to, true)
	got, err = area.Advise(l, from, to, true)
	agrees(t, got, err, &advised, missing)
}

// P9.4
func TestRoom(t *testing.T) {
	l := []api.Area{of(0, 3, plain), of(5, 6, write), of(6, 7, exec), of(12, 4090, plain)}
	for _, c := range []struct{ pages, want int }{{1, 3}, {2, 3}, {3, 7}, {5, 7}, {6, 4090}} {
		if p, err := area.Room(l, c.pages); p != c.want || err != nil {
			t.Errorf("Room(%d): %d, %v, want %d", c.pages, p, err, c.want)
		}
	}
	for _, c := range []struct {
		l           []api.Area
		pages, want int
	}{
		{nil, 1, 0}, {nil, 4096, 0}, {[]api.Area{}, 4095, 0},
		{[]api.Area{of(4, 4096, plain)}, 4, 0},
		{[]api.Area{of(0, 4095, plain)}, 1, 4095},
		{[]api.Area{of(0, 1, plain)}, 4095, 1},
		{[]api.Area{of(2, 3, plain), of(3, 6, write)}, 2, 0},
		{[]api.Area{of(2, 3, plain), of(3, 6, write)}, 3, 6},
		{many(0, 64), 1, 1}, {many(0, 64), 2, 127}, {many(4096-127, 64), 1, 0}, {many(1, 64), 3, 128},
	} {
		if p, err := area.Room(c.l, c.pages); p != c.want || err != nil {
			t.Errorf("Room(%v, %d): %d, %v, want %d", c.l, c.pages, p, err, c.want)
		}
	}
}

// P9.4
func TestNoRoom(t *testing.T) {
	for _, l := range goodLists() {
		m := modelOf(l)
		for _, pages := range append(oddNumbers, 3969, 3970, 4, 5) {
			want, wantErr := m.room(pages)
			if p, err := area.Room(l, pages); p != want || err != wantErr {
				t.Errorf("Room(%v, %d): %d, %v, want %d, %v", l, pages, p, err, want, wantErr)
			}
		}
	}
	for _, c := range []struct {
		l     []api.Area
		pages int
	}{
		{nil, 4097}, {nil, math.MaxInt},
		{[]api.Area{of(0, 4096, plain)}, 1},
		{[]api.Area{of(4, 4096, plain)}, 5},
		{[]api.Area{of(0, 4095, plain)}, 2},
		{[]api.Area{of(3, 4094, plain)}, 4},
	} {
		if p, err := area.Room(c.l, c.pages); p != 0 || err != api.ErrFull {
			t.Errorf("Room(%v, %d): %d, %v", c.l, c.pages, p, err)
		}
	}
	for _, pages := range []int{math.MinInt, -4096, -1, 0} {
		for _, l := range [][]api.Area{nil, {of(0, 4096, plain)}} {
			if p, err := area.Room(l, pages); p != 0 || err != api.ErrArg {
				t.Errorf("Room(%v, %d): %d, %v", l, pages, p, err)
			}
		}
	}
}

// answers are those of all calls that tell a list; some of them come to what the list is.
func answers(t *testing.T, l []api.Area) [][]api.Area {
	t.Helper()
	var all [][]api.Area
	keep := func(got []api.Area, err error) {
		t.Helper()
		if err != nil {
			t.Fatal(err)
		}
		all = append(all, got)
	}
	a := l[0]
	keep(area.Lay(l, a))
	keep(area.Lay(l, of(200, 201, both)))
	keep(area.Lay(l, of(l[1].From, l[1].To, both)))
	keep(area.Cut(l, 200, 201))
	keep(area.Cut(l, a.From, a.To))
	keep(area.Change(l, a.From, a.To, a.Rights))
	keep(area.Change(l, a.From, a.To, both.rights))
	keep(area.Advise(l, a.From, a.To, a.Huge))
	keep(area.Advise(l, a.From, a.To, !a.Huge))
	return all
}

func cloned(lists [][]api.Area) [][]api.Area {
	var all [][]api.Area
	for _, l := range lists {
		all = append(all, slices.Clone(l))
	}
	return all
}

// P9.5, R2: what is handed in stays, what lies behind it in its memory too; and it may go its own ways afterwards.
func TestHandedInStays(t *testing.T) {
	memory := append(many(10, 20), many(300, 20)...)
	was := slices.Clone(memory)
	l := memory[:20]
	all := answers(t, l)
	area.Check(l)
	area.Find(l, 10)
	area.Room(l, 100)
	if !slices.Equal(memory, was) {
		t.Fatal("a call changes what is handed in")
	}
	told := cloned(all)
	for i := range memory {
		memory[i] = of(1, 2, huge)
	}
	for i := range all {
		if !slices.Equal(all[i], told[i]) {
			t.Errorf("answer %d is no new memory", i)
		}
	}
}

// P9.5: what is told may go its own ways, as far as its memory reaches.
func TestToldIsNew(t *testing.T) {
	l := many(10, 20)
	was := slices.Clone(l)
	all := answers(t, l)
	for i := range all {
		others := cloned(all)
		spare := all[i][:cap(all[i])]
		for j := range spare {
			spare[j] = of(7, 8, exec)
		}
		for j := range all {
			if j != i && !slices.Equal(all[j], others[j]) {
				t.Errorf("answers %d and %d share memory", i, j)
			}
		}
	}
	if !slices.Equal(l, was) {
		t.Error("an answer shares memory with what was handed in")
	}
	if again := answers(t, l); slices.Equal(again[0], all[0]) || !slices.Equal(again[0], was) {
		t.Error("an answer is kept")
	}
}

// P9.1 to P9.5: long runs of calls, each held against the model; some lists come to as many areas as there may be.
func TestManyCalls(t *testing.T) {
	r := rand.New(rand.NewSource(9))
	errs := map[error]int{}
	for range 60 {
		pages, long := []int{12, 150, 1000, 4096}[r.Intn(4)], 1+r.Intn(12)
		base := r.Intn(4096 - pages + 1)
		var l []api.Area
		m := &model{}
		for range 300 {
			before := slices.Clone(l)
			from := base + r.Intn(pages)
			to := min(from+r.Intn(long+1), 4096)
			got, err := someCall(t, r, l, m, from, to)
			errs[err]++
			if !slices.Equal(l, before) {
				t.Fatalf("%v became %v", before, l)
			}
			if err == nil {
				l = got
				m = modelOf(l)
			}
			finds(t, l, base+r.Intn(pages))
			n := r.Intn(pages + 10)
			want, wantErr := m.room(n)
			if p, err := area.Room(l, n); p != want || err != wantErr {
				t.Fatalf("Room(%v, %d): %d, %v, want %d, %v", l, n, p, err, want, wantErr)
			}
		}
	}
	for _, err := range []error{nil, api.ErrArg, api.ErrNone, api.ErrFull} {
		if errs[err] < 200 {
			t.Error("too few of one kind", errs)
		}
	}
}

// someCall calls with a list, and does alike with a copy of its model.
func someCall(t *testing.T, r *rand.Rand, l []api.Area, m *model, from, to int) ([]api.Area, error) {
	t.Helper()
	next := *m
	c := cell{true, api.Rights{Write: r.Intn(2) == 0, Exec: r.Intn(3) == 0}, r.Intn(3) == 0}
	var got []api.Area
	var err, want error
	if !maySpan(from, to) {
		want = api.ErrArg
	}
	kind := r.Intn(7)
	if want == nil && kind >= 5 && m.lacks(from, to) {
		want = api.ErrNone
	}
	switch {
	case kind < 4:
		got, err = area.Lay(l, of(from, to, c))
		next.lay(of(from, to, c))
	case kind < 5:
		got, err = area.Cut(l, from, to)
		next.cut(from, max(from, to))
	case kind < 6:
		got, err = area.Change(l, from, to, c.rights)
		next.change(from, to, c.rights)
	default:
		got, err = area.Advise(l, from, to, c.huge)
		next.advise(from, to, c.huge)
	}
	agrees(t, got, err, &next, want)
	return got, err
}

// P9.6: what was laid is found, and other pages keep theirs; what was cut isn't found; what is laid twice is laid once;
// where there is room no page is found.
func TestWhatFollows(t *testing.T) {
	r := rand.New(rand.NewSource(96))
	for range 60 {
		l := someList(t, r)
		from := r.Intn(4000)
		a := of(from, from+1+r.Intn(96), []cell{plain, write, exec, both, huge}[r.Intn(5)])
		laid, err := area.Lay(l, a)
		if err != nil {
			t.Fatal(err)
		}
		cut, err := area.Cut(l, a.From, a.To)
		if err != nil {
			t.Fatal(err)
		}
		for p := range api.Pages {
			if p < a.From || p >= a.To {
				sameAt(t, l, laid, p)
				sameAt(t, l, cut, p)
				continue
			}
			if got, err := area.Find(laid, p); err != nil || got.Rights != a.Rights || got.Huge != a.Huge {
				t.Fatalf("page %d of %v: %v, %v", p, laid, got, err)
			}
			if got, err := area.Find(cut, p); err != api.ErrNone {
				t.Fatalf("page %d of %v: %v, %v", p, cut, got, err)
			}
		}
		twice, err := area.Lay(laid, a)
		is(t, twice, err, laid...)
		twice, err = area.Cut(cut, a.From, a.To)
		is(t, twice, err, cut...)
		pages := 1 + r.Intn(200)
		room, err := area.Room(laid, pages)
		if err != nil {
			t.Fatal(err)
		}
		for p := room; p < room+pages; p++ {
			if got, err := area.Find(laid, p); err != api.ErrNone {
				t.Fatalf("page %d of %v: %v, %v", p, laid, got, err)
			}
		}
	}
}

func someList(t *testing.T, r *rand.Rand) []api.Area {
	t.Helper()
	var l []api.Area
	for range 20 {
		from := r.Intn(4000)
		var err error
		if l, err = area.Lay(l, of(from, from+1+r.Intn(60), []cell{plain, write, huge}[r.Intn(3)])); err != nil {
			t.Fatal(err)
		}
	}
	return l
}

// sameAt tells whether a page has in both lists what it has in the one.
func sameAt(t *testing.T, l, o []api.Area, page int) {
	t.Helper()
	a, err := area.Find(l, page)
	b, other := area.Find(o, page)
	if err != other || a.Rights != b.Rights || a.Huge != b.Huge {
		t.Fatalf("page %d: %v, %v in %v, %v, %v in %v", page, a, err, l, b, other, o)
	}
}

// P9.6: the order in which unlike pages were laid doesn't matter.
func TestOrderDoesntMatter(t *testing.T) {
	r := rand.New(rand.NewSource(69))
	for range 100 {
		var parts []api.Area
		for p := 0; p < 60; {
			to := p + 1 + r.Intn(5)
			parts = append(parts, of(p, to, []cell{plain, plain, write, huge}[r.Intn(4)]))
			p = to + r.Intn(2)
		}
		want := modelOf(parts).list()
		for range 5 {
			var l []api.Area
			var err error
			for _, i := range r.Perm(len(parts)) {
				if l, err = area.Lay(l, parts[i]); err != nil {
					t.Fatal(err)
				}
			}
			is(t, l, nil, want...)
		}
	}
}

// P1 of the whole.
func TestNoCallPanics(t *testing.T) {
	for _, l := range append(goodLists(), badLists()...) {
		for _, a := range oddNumbers {
			for _, b := range oddNumbers {
				area.Check([]api.Area{of(a, b, plain), of(b, a, plain)})
				area.Lay(l, of(a, b, both))
				area.Cut(l, a, b)
				area.Change(l, a, b, both.rights)
				area.Advise(l, a, b, true)
			}
			area.Find(l, a)
			area.Room(l, a)
		}
	}
}
