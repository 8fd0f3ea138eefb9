package phys_test

import (
	"math"
	"math/rand"
	"testing"

	"pavior/api"
	"pavior/phys"
)

// place and model tell a memory as the chapter does: a word for each place, 0 where nothing was stored.
type place struct{ frame, i int }

type model struct {
	frames int
	words  map[place]uint64
}

func newModel(frames int) *model { return &model{frames, map[place]uint64{}} }

func (o *model) clone() *model {
	c := newModel(o.frames)
	for p, v := range o.words {
		c.words[p] = v
	}
	return c
}

func (o *model) copyFrame(to, from int) {
	for i := range api.Words {
		o.words[place{to, i}] = o.words[place{from, i}]
	}
}

func (o *model) clearFrame(frame int) {
	for i := range api.Words {
		o.words[place{frame, i}] = 0
	}
}

func (o *model) same(p *model) bool {
	for f := range o.frames {
		for i := range api.Words {
			if o.words[place{f, i}] != p.words[place{f, i}] {
				return false
			}
		}
	}
	return o.frames == p.frames
}

func made(t *testing.T, frames int) *phys.Memory {
	t.Helper()
	m, err := phys.New(frames)
	if err != nil || m == nil {
		t.Fatalf("New(%d): %v, %v", frames, m, err)
	}
	return m
}

func must(t *testing.T, err error) {
	t.Helper()
	if err != nil {
		t.Fatal(err)
	}
}

// check holds every word of a memory against the model's.
func check(t *testing.T, m *phys.Memory, o *model) {
	t.Helper()
	if m.Frames() != o.frames {
		t.Fatalf("%d frames, want %d", m.Frames(), o.frames)
	}
	for f := range o.frames {
		for i := range api.Words {
			if v, err := m.Load(f, i); err != nil || v != o.words[place{f, i}] {
				t.Fatalf("Load(%d, %d): %d, %v; want %d", f, i, v, err, o.words[place{f, i}])
			}
		}
	}
}

// fill stores another word at every place, so that no two can be taken for each other.
func fill(t *testing.T, m *phys.Memory, o *model, salt uint64) {
	t.Helper()
	for f := range o.frames {
		for i := range api.Words {
			v := salt<<32 + uint64(f*api.Words+i+1)
			must(t, m.Store(f, i, v))
			o.words[place{f, i}] = v
		}
	}
}

// P3.1: every size that may be, with all words 0.
func TestNew(t *testing.T) {
	for frames := 1; frames <= api.MaxFrames; frames++ {
		m := made(t, frames)
		if m.Frames() != frames {
			t.Fatalf("New(%d) has %d frames", frames, m.Frames())
		}
		check(t, m, newModel(frames))
	}
}

// P3.1: sizes that may not be.
func TestNewWrong(t *testing.T) {
	for _, frames := range []int{0, -1, -512, 513, 514, 1024, math.MaxInt32 + 1, math.MaxInt, math.MinInt} {
		if m, err := phys.New(frames); m != nil || err != api.ErrArg {
			t.Errorf("New(%d): %v, %v", frames, m, err)
		}
	}
}

// P3.1, P3.4: two memories have nothing in common.
func TestNewApart(t *testing.T) {
	a, b := made(t, 3), made(t, 3)
	o := newModel(3)
	fill(t, a, o, 1)
	check(t, a, o)
	check(t, b, newModel(3))
}

// P3.2: the words at the ends of what a word may be, at the first and the last place of the least and the greatest memory.
func TestStoreEdges(t *testing.T) {
	for _, frames := range []int{1, 2, api.MaxFrames} {
		m, o := made(t, frames), newModel(frames)
		for _, p := range []place{{0, 0}, {0, 7}, {frames - 1, 0}, {frames - 1, 7}} {
			for _, v := range []uint64{1, 1 << 63, math.MaxUint64, 0, 7} {
				must(t, m.Store(p.frame, p.i, v))
				o.words[p] = v
				check(t, m, o)
			}
		}
	}
}

// P3.2, P3.4: one place is stored at, and all others stay.
func TestStoreElsewhere(t *testing.T) {
	for f := range 4 {
		for i := range api.Words {
			m, o := made(t, 4), newModel(4)
			fill(t, m, o, 1)
			must(t, m.Store(f, i, 99))
			o.words[place{f, i}] = 99
			check(t, m, o)
		}
	}
}

// P3.2: clearing a frame makes its eight words 0 and no other.
func TestClear(t *testing.T) {
	for _, frames := range []int{1, 2, 5, api.MaxFrames} {
		for _, f := range []int{0, frames / 2, frames - 1} {
			m, o := made(t, frames), newModel(frames)
			fill(t, m, o, 2)
			must(t, m.Clear(f))
			o.clearFrame(f)
			check(t, m, o)
		}
	}
}

// P3.2: every pair of frames of a small memory, a frame onto itself too.
func TestCopy(t *testing.T) {
	for to := range 5 {
		for from := range 5 {
			m, o := made(t, 5), newModel(5)
			fill(t, m, o, 3)
			must(t, m.Copy(to, from))
			o.copyFrame(to, from)
			check(t, m, o)
		}
	}
}

// P3.4: a frame that was copied doesn't follow the one that it was copied from, nor that one it.
func TestCopyGoesItsOwnWays(t *testing.T) {
	m, o := made(t, 3), newModel(3)
	fill(t, m, o, 4)
	must(t, m.Copy(0, 2))
	o.copyFrame(0, 2)
	must(t, m.Store(2, 5, 70))
	o.words[place{2, 5}] = 70
	check(t, m, o)
	must(t, m.Store(0, 6, 71))
	o.words[place{0, 6}] = 71
	check(t, m, o)
	must(t, m.Clear(2))
	o.clearFrame(2)
	check(t, m, o)
}

// P3.2: the chapter's examples.
func TestExamples(t *testing.T) {
	m := made(t, 2)
	must(t, m.Store(1, 2, 7))
	must(t, m.Copy(0, 1))
	if v, err := m.Load(0, 2); v != 7 || err != nil {
		t.Error(v, err)
	}
	if v, err := m.Load(0, 8); v != 0 || err != api.ErrArg {
		t.Error(v, err)
	}
}

// P3.2: places that aren't there: the error itself, and nothing is changed.
func TestWrongPlaces(t *testing.T) {
	for _, frames := range []int{1, 3, api.MaxFrames} {
		m, o := made(t, frames), newModel(frames)
		fill(t, m, o, 5)
		wrongFrames := []int{-1, frames, frames + 1, -frames, 1 << 32, math.MaxInt, math.MinInt}
		wrongWords := []int{-1, 8, 9, -8, 1 << 32, math.MaxInt, math.MinInt}
		for _, f := range wrongFrames {
			for _, i := range append([]int{0, 7}, wrongWords...) {
				refused(t, m, f, i)
			}
			for _, g := range append([]int{0, frames - 1}, wrongFrames...) {
				for _, err := range []error{m.Copy(f, g), m.Copy(g, f)} {
					if err != api.ErrArg {
						t.Errorf("Copy of %d and %d: %v", f, g, err)
					}
				}
			}
			if err := m.Clear(f); err != api.ErrArg {
				t.Errorf("Clear(%d): %v", f, err)
			}
		}
		for _, i := range wrongWords {
			refused(t, m, 0, i)
			refused(t, m, frames-1, i)
		}
		check(t, m, o)
	}
}

func refused(t *testing.T, m *phys.Memory, frame, i int) {
	t.Helper()
	if v, err := m.Load(frame, i); v != 0 || err != api.ErrArg {
		t.Errorf("Load(%d, %d): %d, %v", frame, i, v, err)
	}
	if err := m.Store(frame, i, 1); err != api.ErrArg {
		t.Errorf("Store(%d, %d): %v", frame, i, err)
	}
}

// P3.3: a clone stands alike, and neither follows the other.
func TestClone(t *testing.T) {
	for _, frames := range []int{1, 2, 7, api.MaxFrames} {
		m, o := made(t, frames), newModel(frames)
		fill(t, m, o, 6)
		c, p := m.Clone(), o.clone()
		if c == m {
			t.Fatal("a clone is the memory itself")
		}
		check(t, c, p)
		last := frames - 1
		must(t, m.Store(last, 7, 1))
		o.words[place{last, 7}] = 1
		must(t, c.Store(0, 0, 2))
		p.words[place{0, 0}] = 2
		check(t, m, o)
		check(t, c, p)
		must(t, c.Clear(last))
		p.clearFrame(last)
		must(t, m.Copy(0, last))
		o.copyFrame(0, last)
		check(t, m, o)
		check(t, c, p)
	}
}

// P3.3: a clone of a clone is apart from both.
func TestCloneTwice(t *testing.T) {
	m, o := made(t, 2), newModel(2)
	fill(t, m, o, 7)
	c := m.Clone()
	d := c.Clone()
	must(t, c.Clear(1))
	check(t, m, o)
	check(t, d, o)
	if !m.Same(d) || m.Same(c) || d.Same(c) {
		t.Error("same")
	}
}

// P3.3: the same words, from whichever side; and asking changes nothing.
func TestSame(t *testing.T) {
	for _, frames := range []int{1, 2, api.MaxFrames} {
		m, o := made(t, frames), newModel(frames)
		if !m.Same(made(t, frames)) {
			t.Error("two new ones aren't the same")
		}
		fill(t, m, o, 8)
		again := made(t, frames)
		fill(t, again, newModel(frames), 8)
		if !m.Same(m) || !m.Same(again) || !again.Same(m) || !m.Same(m.Clone()) || !m.Clone().Same(m) {
			t.Error("the same words aren't the same")
		}
		check(t, m, o)
		check(t, again, o)
	}
}

// P3.3: one word that differs, wherever it stands and whichever bit it is.
func TestSameNot(t *testing.T) {
	for _, frames := range []int{1, 3, api.MaxFrames} {
		m := made(t, frames)
		fill(t, m, newModel(frames), 9)
		for _, f := range []int{0, frames / 2, frames - 1} {
			for i := range api.Words {
				for _, bit := range []int{0, 31, 63} {
					c := m.Clone()
					v, err := c.Load(f, i)
					must(t, err)
					must(t, c.Store(f, i, v^1<<bit))
					if m.Same(c) || c.Same(m) {
						t.Errorf("%d frames, (%d, %d), bit %d: the same", frames, f, i, bit)
					}
					must(t, c.Store(f, i, v))
					if !m.Same(c) || !c.Same(m) {
						t.Errorf("%d frames, (%d, %d), bit %d: not the same again", frames, f, i, bit)
					}
				}
			}
		}
	}
}

// P3.3: a memory that isn't there, or has more frames, though its first words are the same.
func TestSameOtherSizes(t *testing.T) {
	for _, frames := range []int{1, 2, api.MaxFrames - 1} {
		m, n := made(t, frames), made(t, frames+1)
		if m.Same(nil) {
			t.Error("nil is the same")
		}
		if m.Same(n) || n.Same(m) {
			t.Errorf("%d frames are the same as %d", frames, frames+1)
		}
		fill(t, m, newModel(frames), 10)
		fill(t, n, newModel(frames+1), 10)
		if m.Same(n) || n.Same(m) {
			t.Errorf("%d filled frames are the same as %d", frames, frames+1)
		}
	}
}

// P3.2 to P3.4: many calls in a row on some memories, each memory held against its model after each.
func TestManyCalls(t *testing.T) {
	for seed := range int64(20) {
		r := rand.New(rand.NewSource(seed))
		frames := 1 + r.Intn(6)
		memories, models := []*phys.Memory{made(t, frames)}, []*model{newModel(frames)}
		for range 400 {
			k := r.Intn(len(memories))
			m, o := memories[k], models[k]
			f, g, i, v := r.Intn(frames+2)-1, r.Intn(frames+2)-1, r.Intn(api.Words+2)-1, uint64(r.Intn(3))
			hasF, hasG, hasI := f >= 0 && f < frames, g >= 0 && g < frames, i >= 0 && i < api.Words
			switch n := r.Intn(20); {
			case n < 9:
				if told(t, m.Store(f, i, v), hasF && hasI) {
					o.words[place{f, i}] = v
				}
			case n < 12:
				if told(t, m.Clear(f), hasF) {
					o.clearFrame(f)
				}
			case n < 18:
				if told(t, m.Copy(f, g), hasF && hasG) {
					o.copyFrame(f, g)
				}
			case len(memories) < 4:
				memories, models = append(memories, m.Clone()), append(models, o.clone())
			}
			for a := range memories {
				check(t, memories[a], models[a])
				for b := range memories {
					if memories[a].Same(memories[b]) != models[a].same(models[b]) {
						t.Fatalf("seed %d: Same of %d and %d", seed, a, b)
					}
				}
			}
		}
	}
}

// told says whether a call was done, as it should be exactly where all its places are there.
func told(t *testing.T, err error, there bool) bool {
	t.Helper()
	if there && err != nil || !there && err != api.ErrArg {
		t.Fatalf("%v, places there: %v", err, there)
	}
	return there
}
