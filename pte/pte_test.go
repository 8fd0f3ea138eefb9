package pte

import (
	"math"
	"testing"

	"pavior/api"
)

// told is a word and what it says.
type told struct {
	w uint64
	d api.Desc
}

// b is a word with some bits set.
func b(bits ...int) uint64 {
	var w uint64
	for _, i := range bits {
		w |= 1 << i
	}
	return w
}

// withRights lays the rights and soft bits over what a kind begins with.
func withRights(w uint64, d api.Desc) []told {
	var all []told
	for _, write := range []bool{false, true} {
		for _, exec := range []bool{false, true} {
			for s := range 8 {
				x := told{w | uint64(s)<<55, d}
				x.d.Write, x.d.Exec, x.d.Soft = write, exec, s
				if !write {
					x.w |= b(7)
				}
				if !exec {
					x.w |= b(54)
				}
				all = append(all, x)
			}
		}
	}
	return all
}

// withMark lays a bit and what it stands for over each word, beside the word without it.
func withMark(list []told, bit int, mark func(*api.Desc)) []told {
	var all []told
	for _, x := range list {
		y := x
		y.w |= b(bit)
		mark(&y.d)
		all = append(all, x, y)
	}
	return all
}

func markSeen(d *api.Desc) { d.Seen = true }
func markFold(d *api.Desc) { d.Fold = true }

// ofFrame is all words of one frame at a level, as the chapter's table has them.
func ofFrame(level, frame int) []told {
	at := uint64(frame) << 12
	all := withRights(at|b(1, 3), api.Desc{Kind: api.KindMoving, Frame: frame})
	if level < 3 {
		all = append(all, told{at | b(0, 1), api.Desc{Kind: api.KindTable, Frame: frame}})
	}
	if level == 2 && frame%8 == 0 {
		blocks := withRights(at|b(0, 6), api.Desc{Kind: api.KindBlock, Frame: frame})
		all = append(all, withMark(blocks, 10, markSeen)...)
	}
	if level == 3 {
		pages := withRights(at|b(0, 1, 6), api.Desc{Kind: api.KindPage, Frame: frame})
		all = append(all, withMark(withMark(pages, 10, markSeen), 52, markFold)...)
	}
	return all
}

// allTold is each word that isn't reserved at a level.
func allTold(level int) []told {
	all := []told{{0, api.Desc{}}}
	for frame := range 512 {
		all = append(all, ofFrame(level, frame)...)
	}
	return all
}

// book is what all words of a level say; those it hasn't are reserved.
type book struct {
	says map[uint64]api.Desc
	word map[api.Desc]uint64
}

func newBook(level int) book {
	bk := book{map[uint64]api.Desc{}, map[api.Desc]uint64{}}
	for _, x := range allTold(level) {
		bk.says[x.w] = x.d
		bk.word[x.d] = x.w
	}
	return bk
}

func (bk book) want(w uint64) api.Desc {
	if d, ok := bk.says[w]; ok {
		return d
	}
	return api.Desc{Kind: api.KindBad}
}

// mayChange is P2.3, word by word.
func (bk book) mayChange(old, new uint64) bool {
	if old == new || old&1 == 0 || new&1 == 0 {
		return true
	}
	x, y := bk.want(old), bk.want(new)
	return x.Kind != api.KindBad && y.Kind != api.KindBad &&
		x.Kind == y.Kind && x.Frame == y.Frame && x.Write == y.Write && x.Exec == y.Exec && x.Fold == y.Fold
}

// someFrames are frames at the edges, and ones whose numbers differ in one bit.
var someFrames = []int{0, 1, 2, 4, 7, 8, 9, 16, 256, 504, 510, 511}

// oddWords are words most of which are reserved.
func oddWords() []uint64 {
	words := []uint64{math.MaxUint64, math.MaxUint64 - 1, 512 << 12, 1<<48 - 1, 4096}
	for i := range 64 {
		words = append(words, 1<<i, 1<<i|1, 1<<i|3, 1<<i|0x41, 1<<i|0x43, 1<<i|10)
	}
	for low := range uint64(1 << 12) {
		words = append(words, low, low|8<<12, low|512<<12)
	}
	x := uint64(88172645463325252)
	for range 2000 {
		x ^= x << 13
		x ^= x >> 7
		x ^= x << 17
		words = append(words, x)
	}
	return words
}

func checkDecode(t *testing.T, bk book, level int, w uint64) {
	t.Helper()
	d, err := Decode(level, w)
	if err != nil || d != bk.want(w) {
		t.Fatalf("Decode(%d, %x) = %+v, %v; want %+v", level, w, d, err, bk.want(w))
	}
}

func checkEncode(t *testing.T, bk book, level int, d api.Desc) {
	t.Helper()
	w, err := Encode(level, d)
	if want, ok := bk.word[d]; ok {
		if err != nil || w != want {
			t.Fatalf("Encode(%d, %+v) = %x, %v; want %x", level, d, w, err, want)
		}
		return
	}
	if err != api.ErrArg || w != 0 {
		t.Fatalf("Encode(%d, %+v) = %x, %v; want ErrArg itself", level, d, w, err)
	}
}

func TestDecodeEachWord(t *testing.T) { // P2.1
	for level := range 4 {
		bk := newBook(level)
		for w := range bk.says {
			checkDecode(t, bk, level, w)
		}
	}
}

func TestDecodeOneBitOff(t *testing.T) { // P2.1: each bit that isn't named is 0, each that has to be 1 is
	for level := range 4 {
		bk := newBook(level)
		for _, frame := range someFrames {
			for _, x := range ofFrame(level, frame) {
				for bit := range 64 {
					checkDecode(t, bk, level, x.w^b(bit))
				}
			}
		}
	}
}

func TestDecodeOddWords(t *testing.T) { // P2.1
	for level := range 4 {
		bk := newBook(level)
		for _, w := range oddWords() {
			checkDecode(t, bk, level, w)
		}
	}
}

func TestDecodeExamples(t *testing.T) { // P2.1
	bad := api.Desc{Kind: api.KindBad}
	for _, c := range []struct {
		level int
		w     uint64
		want  api.Desc
	}{
		{3, 0, api.Desc{}},
		{0, 0, api.Desc{}},
		{0, 1, bad},
		{1, 0x41, bad},
		{3, 0x41, bad},
		{2, 1, bad}, // not a user's
		{2, 0x41, api.Desc{Kind: api.KindBlock, Write: true, Exec: true}},
		{2, 0x8041, api.Desc{Kind: api.KindBlock, Frame: 8, Write: true, Exec: true}},
		{2, 0x9041, bad}, // not aligned
		{2, 1<<52 | 0x8041, bad},
		{3, 3, bad},
		{3, 0x2043, api.Desc{Kind: api.KindPage, Frame: 2, Write: true, Exec: true}},
		{3, 0x9043, api.Desc{Kind: api.KindPage, Frame: 9, Write: true, Exec: true}},
		{3, 0x1ff043, api.Desc{Kind: api.KindPage, Frame: 511, Write: true, Exec: true}},
		{3, 0x200043, bad}, // frame 512
		{3, 1<<47 | 0x2043, bad},
		{3, 1<<48 | 0x2043, bad},
		{2, 0x2043, bad},
		{3, 7<<55 | 1<<54 | 1<<52 | 1<<10 | 1<<7 | 0x2043, api.Desc{Kind: api.KindPage, Frame: 2, Seen: true, Fold: true, Soft: 7}},
		{3, 1<<55 | 0x2043, api.Desc{Kind: api.KindPage, Frame: 2, Write: true, Exec: true, Soft: 1}},
		{0, 0x2003, api.Desc{Kind: api.KindTable, Frame: 2}},
		{1, 0x2003, api.Desc{Kind: api.KindTable, Frame: 2}},
		{2, 0x2003, api.Desc{Kind: api.KindTable, Frame: 2}},
		{3, 0x2003, bad},
		{0, 0x2083, bad},
		{0, 0x200003, bad},
		{1, 0x200a, api.Desc{Kind: api.KindMoving, Frame: 2, Write: true, Exec: true}},
		{3, 5<<55 | 1<<54 | 0x208a, api.Desc{Kind: api.KindMoving, Frame: 2, Soft: 5}},
		{3, 0x20000a, bad},
		{3, 0x200e, bad},
		{3, 0x2002, bad},
		{3, 0x2008, bad},
		{3, 0x2000, bad},
		{3, 0x204a, bad},
		{3, 0x240a, bad},
		{3, 1<<52 | 0x200a, bad},
	} {
		if d, err := Decode(c.level, c.w); err != nil || d != c.want {
			t.Errorf("Decode(%d, %x) = %+v, %v; want %+v", c.level, c.w, d, err, c.want)
		}
	}
}

// oddDescs are descriptors with a number or a mark that their kind may not have, beside ones that may be.
func oddDescs() []api.Desc {
	var all []api.Desc
	frames := []int{math.MinInt, -4096, -8, -1, 0, 1, 7, 8, 504, 511, 512, 513, 1 << 36, 1<<36 + 8, 1 << 52, 1 << 60, math.MaxInt}
	softs := []int{math.MinInt, -8, -1, 0, 1, 7, 8, 15, 512, 1 << 61, math.MaxInt}
	for _, kind := range []int{math.MinInt, -1, 0, 1, 2, 3, 4, 5, 6, 7, math.MaxInt} {
		for _, frame := range frames {
			for _, soft := range softs {
				for marks := range 16 {
					all = append(all, api.Desc{
						Kind: kind, Frame: frame, Soft: soft,
						Write: marks&1 != 0, Exec: marks&2 != 0, Seen: marks&4 != 0, Fold: marks&8 != 0,
					})
				}
			}
		}
	}
	return all
}

func TestEncodeEachDesc(t *testing.T) { // P2.2
	for level := range 4 {
		bk := newBook(level)
		for d := range bk.word {
			checkEncode(t, bk, level, d)
		}
	}
}

func TestEncodeOddDescs(t *testing.T) { // P2.2
	odd := oddDescs()
	for level := range 4 {
		bk := newBook(level)
		for _, d := range odd {
			checkEncode(t, bk, level, d)
		}
	}
}

func TestEncodeExamples(t *testing.T) { // P2.2
	for _, c := range []struct {
		level int
		d     api.Desc
		want  uint64
	}{
		{3, api.Desc{}, 0},
		{3, api.Desc{Kind: api.KindPage, Frame: 2, Write: true, Exec: true}, 0x2043},
		{3, api.Desc{Kind: api.KindPage}, 1<<54 | 0xc3},
		{2, api.Desc{Kind: api.KindBlock, Frame: 8, Write: true, Exec: true, Seen: true}, 0x8441},
		{0, api.Desc{Kind: api.KindTable, Frame: 511}, 0x1ff003},
		{1, api.Desc{Kind: api.KindMoving, Frame: 1, Write: true, Soft: 4}, 1<<57 | 1<<54 | 0x100a},
	} {
		if w, err := Encode(c.level, c.d); err != nil || w != c.want {
			t.Errorf("Encode(%d, %+v) = %x, %v; want %x", c.level, c.d, w, err, c.want)
		}
	}
}

// noLevels are levels that may not be.
var noLevels = []int{math.MinInt, -4, -1, 4, 5, 64, math.MaxInt}

func TestNoSuchLevel(t *testing.T) { // P2.1, P2.2, P2.3
	page := api.Desc{Kind: api.KindPage, Frame: 2}
	for _, level := range noLevels {
		for _, w := range []uint64{0, 1, 0x2043, 0x2003, 0x8041, 0x200a, math.MaxUint64} {
			if d, err := Decode(level, w); err != api.ErrArg || d != (api.Desc{}) {
				t.Errorf("Decode(%d, %x) = %+v, %v; want ErrArg itself", level, w, d, err)
			}
			if ok, err := Change(level, w, w); err != api.ErrArg || ok {
				t.Errorf("Change(%d, %x, %x) = %v, %v; want ErrArg itself", level, w, w, ok, err)
			}
		}
		for _, d := range []api.Desc{{}, page, {Kind: api.KindTable}, {Kind: api.KindMoving}, {Kind: api.KindBad}} {
			if w, err := Encode(level, d); err != api.ErrArg || w != 0 {
				t.Errorf("Encode(%d, %+v) = %x, %v; want ErrArg itself", level, d, w, err)
			}
		}
	}
}

// changeWords are words of all kinds at a level, ones a bit beside them, and reserved ones.
func changeWords(level int) []uint64 {
	words := []uint64{0, 1, 2, 3, 0x41, 0x43, 0x200003, 0x200043, 0x20000a, math.MaxUint64, math.MaxUint64 - 1}
	for _, frame := range []int{0, 2, 8, 16} {
		for _, x := range ofFrame(level, frame) {
			if x.d.Soft == 0 || x.d.Soft == 5 {
				words = append(words, x.w)
			}
		}
	}
	return words
}

func checkChange(t *testing.T, bk book, level int, old, new uint64) {
	t.Helper()
	ok, err := Change(level, old, new)
	if err != nil || ok != bk.mayChange(old, new) {
		t.Fatalf("Change(%d, %x, %x) = %v, %v", level, old, new, ok, err)
	}
	if back, err := Change(level, new, old); err != nil || back != ok { // P2.4
		t.Fatalf("Change(%d, %x, %x) = %v, %v; but the other way %v", level, new, old, back, err, ok)
	}
}

func TestChangeEachPair(t *testing.T) { // P2.3, P2.4
	for level := range 4 {
		bk := newBook(level)
		words := changeWords(level)
		for _, old := range words {
			for _, new := range words {
				checkChange(t, bk, level, old, new)
			}
		}
	}
}

func TestChangeOneBit(t *testing.T) { // P2.3
	for level := range 4 {
		bk := newBook(level)
		for _, w := range append(changeWords(level), oddWords()[:400]...) {
			for bit := range 64 {
				checkChange(t, bk, level, w, w^b(bit))
			}
		}
	}
}

func TestChangeExamples(t *testing.T) { // P2.3
	for _, c := range []struct {
		level    int
		old, new uint64
		want     bool
	}{
		{3, 0x2043, 0x2043, true},
		{3, 0x2043, 0x2443, true},                  // seen
		{3, 0x2043, 3<<55 | 0x2043, true},          // soft
		{3, 0x2043, 7<<55 | 0x2443, true},          // both
		{3, 0x2043, 0x20c3, false},                 // read-only
		{3, 0x20c3, 0x2043, false},                 // and back
		{3, 0x2043, 1<<54 | 0x2043, false},         // not to be run
		{3, 0x2043, 1<<52 | 0x2043, false},         // folded
		{3, 0x2043, 0x3043, false},                 // another frame
		{3, 0x2043, 0, true},                       // broken
		{3, 0, 0x2043, true},                       // made
		{3, 0x200a, 0x3043, true},                  // moving
		{3, 0x2043, math.MaxUint64 - 1, true},      // reserved, but not valid
		{3, math.MaxUint64, 0, true},               // reserved, and broken
		{3, math.MaxUint64, 1, false},              // reserved, both
		{3, 3, 3, true},                            // reserved, but the same
		{3, 3, 0x403, false},                       // reserved, and only seen differs
		{2, 0x8003, 0x8041, false},                 // a table, a block
		{2, 0x8041, 0x8441, true},                  // a block
		{2, 1<<52 | 0x8041, 1<<52 | 0x8441, false}, // reserved
		{0, 0x8003, 0x9003, false},
	} {
		if ok, err := Change(c.level, c.old, c.new); err != nil || ok != c.want {
			t.Errorf("Change(%d, %x, %x) = %v, %v; want %v", c.level, c.old, c.new, ok, err, c.want)
		}
	}
}

func TestEncodedIsDecoded(t *testing.T) { // P2.4
	words := map[uint64]api.Desc{}
	for level := range 4 {
		for _, d := range oddDescs() {
			w, err := Encode(level, d)
			if err != nil {
				continue
			}
			if back, err := Decode(level, w); err != nil || back != d {
				t.Fatalf("level %d: %+v is encoded as %x, which says %+v, %v", level, d, w, back, err)
			}
			if other, ok := words[w]; ok && other != d {
				t.Fatalf("%+v and %+v have the same word %x", d, other, w)
			}
			words[w] = d
		}
	}
}

func TestDecodedIsEncoded(t *testing.T) { // P2.4
	for level := range 4 {
		words := oddWords()
		for _, frame := range someFrames {
			for _, x := range ofFrame(level, frame) {
				words = append(words, x.w)
			}
		}
		for _, w := range words {
			d, err := Decode(level, w)
			if err != nil {
				t.Fatal(err)
			}
			back, err := Encode(level, d)
			if d.Kind == api.KindBad {
				if err != api.ErrArg || back != 0 {
					t.Fatalf("what is reserved is encoded: %x, %v", back, err)
				}
			} else if err != nil || back != w {
				t.Fatalf("level %d: %x says %+v, which is encoded as %x, %v", level, w, d, back, err)
			}
		}
	}
}

// saysAt is what a word says at each level.
func saysAt(t *testing.T, w uint64) [4]api.Desc {
	t.Helper()
	var all [4]api.Desc
	for level := range 4 {
		d, err := Decode(level, w)
		if err != nil {
			t.Fatal(err)
		}
		all[level] = d
	}
	return all
}

func TestWordsAtOtherLevels(t *testing.T) { // P2.4
	bad := api.Desc{Kind: api.KindBad}
	for level := range 4 {
		for _, frame := range someFrames {
			for _, x := range ofFrame(level, frame) {
				want := [4]api.Desc{bad, bad, bad, bad}
				switch x.d.Kind {
				case api.KindTable:
					want[0], want[1], want[2] = x.d, x.d, x.d
				case api.KindBlock:
					want[2] = x.d
				case api.KindPage:
					want[3] = x.d
				case api.KindMoving:
					want = [4]api.Desc{x.d, x.d, x.d, x.d}
				}
				if got := saysAt(t, x.w); got != want {
					t.Fatalf("%x says %+v; want %+v", x.w, got, want)
				}
			}
		}
	}
}
