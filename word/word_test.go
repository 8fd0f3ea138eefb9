package word

import (
	"math"
	"slices"
	"testing"

	"pavior/api"
)

// sampleWords are words whose fields differ from bit to bit.
var sampleWords = []uint64{0, 1, 0xf0, 1 << 63, math.MaxUint64, 0x0123456789abcdef, 0xfedcba9876543210, 0xaaaaaaaaaaaaaaaa}

// oddInts are numbers at and beyond the edges of every argument.
var oddInts = []int{
	math.MinInt, math.MinInt + 1, -1 << 40, -65, -64, -2, -1, 0, 1, 2, 3, 19, 20, 21, 31, 32, 62, 63, 64, 65, 66, 128,
	1<<20 - 1, 1 << 20, 1<<20 + 1, 1<<40 - 1, 1 << 40, 1<<40 + 1, math.MaxInt - 63, math.MaxInt - 1, math.MaxInt,
}

// slowField reads a field bit by bit.
func slowField(w uint64, at, n int) uint64 {
	var f uint64
	for i := range n {
		if w&(1<<(at+i)) != 0 {
			f |= 1 << i
		}
	}
	return f
}

// slowPut writes a field bit by bit.
func slowPut(w uint64, at, n int, v uint64) uint64 {
	for i := range n {
		w &^= 1 << (at + i)
		if v&(1<<i) != 0 {
			w |= 1 << (at + i)
		}
	}
	return w
}

// fits tells whether v has at most n bits.
func fits(v uint64, n int) bool {
	for i := n; i < 64; i++ {
		if v&(1<<i) != 0 {
			return false
		}
	}
	return true
}

// eachField goes through all fields that may be.
func eachField(do func(at, n int)) {
	for at := 0; at <= 63; at++ {
		for n := 1; n <= 64-at; n++ {
			do(at, n)
		}
	}
}

func wantArg(t *testing.T, what string, args []int, err error) {
	t.Helper()
	if err != api.ErrArg {
		t.Errorf("%s%v: error %v, want ErrArg itself", what, args, err)
	}
}

func TestFieldOfEveryPlace(t *testing.T) { // P1.1
	eachField(func(at, n int) {
		for _, w := range sampleWords {
			f, err := Field(w, at, n)
			if err != nil || f != slowField(w, at, n) {
				t.Fatalf("Field(%x, %d, %d) = %x, %v", w, at, n, f, err)
			}
		}
	})
}

func TestFieldExamples(t *testing.T) { // P1.1
	for _, c := range []struct {
		w     uint64
		at, n int
		want  uint64
	}{
		{0xf0, 4, 4, 15},
		{0xf0, 3, 4, 14},
		{0xf0, 0, 4, 0},
		{math.MaxUint64, 0, 64, math.MaxUint64},
		{0x8000000000000001, 0, 64, 0x8000000000000001},
		{1 << 63, 63, 1, 1},
		{1 << 62, 63, 1, 0},
		{0xf000000000000000, 60, 4, 15},
		{0xf000000000000000, 1, 63, 0x7800000000000000},
	} {
		if f, err := Field(c.w, c.at, c.n); err != nil || f != c.want {
			t.Errorf("Field(%x, %d, %d) = %x, %v; want %x", c.w, c.at, c.n, f, err, c.want)
		}
	}
}

// noFields are fields that may not be: at or n beyond its edge, or both together.
var noFields = [][2]int{
	{-1, 1}, {-1, 64}, {-1, 65}, {64, 1}, {64, 0}, {65, 1},
	{0, 0}, {0, -1}, {0, 65}, {63, 0}, {5, -5},
	{63, 2}, {60, 5}, {1, 64}, {32, 33},
	{math.MinInt, 1}, {math.MaxInt, 1}, {0, math.MaxInt}, {0, math.MinInt},
	{math.MaxInt, math.MaxInt}, {math.MinInt, math.MinInt}, {math.MaxInt, math.MinInt}, {63, math.MaxInt},
}

func TestFieldThatMayNotBe(t *testing.T) { // P1.1
	for _, c := range noFields {
		f, err := Field(math.MaxUint64, c[0], c[1])
		wantArg(t, "Field", c[:], err)
		if f != 0 {
			t.Errorf("Field%v = %x beside an error", c, f)
		}
	}
}

func TestPutThatMayNotBe(t *testing.T) { // P1.1: ErrArg is named ahead of ErrLong
	for _, c := range noFields {
		for _, v := range []uint64{0, 1, math.MaxUint64} {
			p, err := Put(math.MaxUint64, c[0], c[1], v)
			wantArg(t, "Put", c[:], err)
			if p != 0 {
				t.Errorf("Put%v = %x beside an error", c, p)
			}
		}
	}
}

func TestPutTooLong(t *testing.T) { // P1.1
	eachField(func(at, n int) {
		if n == 64 {
			return
		}
		for _, v := range []uint64{1 << n, 1<<n | 1, 1 << 63, math.MaxUint64} {
			p, err := Put(math.MaxUint64, at, n, v)
			if err != api.ErrLong || p != 0 {
				t.Fatalf("Put(.., %d, %d, %x) = %x, %v; want ErrLong itself", at, n, v, p, err)
			}
		}
	})
}

func TestPutAtEveryPlace(t *testing.T) { // P1.1
	eachField(func(at, n int) {
		most := uint64(math.MaxUint64) >> (64 - n)
		for _, w := range sampleWords {
			for _, v := range []uint64{0, 1, most / 2, most / 3, most - 1, most} {
				p, err := Put(w, at, n, v)
				if err != nil || p != slowPut(w, at, n, v) {
					t.Fatalf("Put(%x, %d, %d, %x) = %x, %v", w, at, n, v, p, err)
				}
			}
		}
	})
}

func TestPutExamples(t *testing.T) { // P1.1
	for _, c := range []struct {
		w     uint64
		at, n int
		v     uint64
		want  uint64
	}{
		{0, 60, 4, 15, 0xf000000000000000},
		{math.MaxUint64, 60, 4, 0, 0x0fffffffffffffff},
		{math.MaxUint64, 0, 64, 7, 7},
		{7, 0, 64, math.MaxUint64, math.MaxUint64},
		{0, 63, 1, 1, 1 << 63},
		{math.MaxUint64, 8, 8, 0x12, 0xffffffffffff12ff},
	} {
		if p, err := Put(c.w, c.at, c.n, c.v); err != nil || p != c.want {
			t.Errorf("Put(%x, %d, %d, %x) = %x, %v; want %x", c.w, c.at, c.n, c.v, p, err, c.want)
		}
	}
}

func TestPutIsFoundAndOtherBitsStay(t *testing.T) { // P1.5
	eachField(func(at, n int) {
		for _, w := range sampleWords {
			for _, v := range sampleWords {
				if !fits(v, n) {
					continue
				}
				p, err := Put(w, at, n, v)
				if err != nil {
					t.Fatalf("Put(%x, %d, %d, %x): %v", w, at, n, v, err)
				}
				if f, err := Field(p, at, n); err != nil || f != v {
					t.Fatalf("put %x at %d, %d; found %x, %v", v, at, n, f, err)
				}
				changed := w ^ p
				if changed != slowField(changed, at, n)<<at {
					t.Fatalf("Put(%x, %d, %d, %x) = %x changes other bits", w, at, n, v, p)
				}
			}
		}
	})
}

func TestOrderOfPowers(t *testing.T) { // P1.2
	for o := range 63 {
		if got, err := Order(1 << o); err != nil || got != o {
			t.Errorf("Order(2^%d) = %d, %v", o, got, err)
		}
	}
}

func TestOrderOfOthers(t *testing.T) { // P1.2
	wrong := []int{0, -1, -2, -4, -1024, math.MinInt, math.MinInt + 1, 3, 5, 6, 7, 9, 10, 12, 1000, math.MaxInt, 1<<62 + 1}
	for o := 2; o < 63; o++ {
		wrong = append(wrong, 1<<o-1, 1<<o+1, -(1 << o))
	}
	for _, n := range wrong {
		got, err := Order(n)
		wantArg(t, "Order", []int{n}, err)
		if got != 0 {
			t.Errorf("Order(%d) = %d beside an error", n, got)
		}
	}
}

// checkAligned holds Down and Up of one number against what aligned means.
func checkAligned(t *testing.T, n, order int) {
	t.Helper()
	size := 1 << order
	down, err := Down(n, order)
	if err != nil || down%size != 0 || down > n || n-down >= size || down < 0 {
		t.Fatalf("Down(%d, %d) = %d, %v", n, order, down, err)
	}
	up, err := Up(n, order)
	if err != nil || up%size != 0 || up < n || up-n >= size {
		t.Fatalf("Up(%d, %d) = %d, %v", n, order, up, err)
	}
	if n%size == 0 && (down != n || up != n) { // P1.5
		t.Fatalf("%d is aligned to %d, but Down is %d, Up %d", n, order, down, up)
	}
	if n%size != 0 && up != down+size { // P1.5
		t.Fatalf("%d, order %d: Down %d and Up %d aren't one alignment apart", n, order, down, up)
	}
}

func TestDownAndUpOfSmallNumbers(t *testing.T) { // P1.2, P1.5
	for n := range 1100 {
		for order := 0; order <= 20; order++ {
			checkAligned(t, n, order)
		}
	}
}

func TestDownAndUpAtEdges(t *testing.T) { // P1.2, P1.5
	for order := 0; order <= 20; order++ {
		size := 1 << order
		for _, n := range []int{0, 1, size - 1, size, size + 1, 3*size - 1, 3 * size, 3*size + 1, 1<<40 - size, 1<<40 - size/2, 1<<40 - 1, 1 << 40} {
			checkAligned(t, n, order)
		}
	}
}

func TestDownAndUpExamples(t *testing.T) { // P1.2
	for _, c := range [][4]int{
		{9, 3, 8, 16}, {8, 3, 8, 8}, {0, 20, 0, 0}, {1, 20, 0, 1 << 20}, {7, 0, 7, 7},
		{1 << 40, 20, 1 << 40, 1 << 40}, {1<<40 - 1, 20, 1<<40 - 1<<20, 1 << 40}, {1<<40 - 1, 0, 1<<40 - 1, 1<<40 - 1},
	} {
		if got, err := Down(c[0], c[1]); err != nil || got != c[2] {
			t.Errorf("Down(%d, %d) = %d, %v; want %d", c[0], c[1], got, err, c[2])
		}
		if got, err := Up(c[0], c[1]); err != nil || got != c[3] {
			t.Errorf("Up(%d, %d) = %d, %v; want %d", c[0], c[1], got, err, c[3])
		}
	}
}

func TestDownAndUpOfWrongNumbers(t *testing.T) { // P1.2
	for _, c := range [][]int{
		{-1, 0}, {-8, 3}, {-1, 20}, {math.MinInt, 3}, {1<<40 + 1, 0}, {1<<40 + 1, 20}, {1 << 41, 3}, {math.MaxInt, 3},
		{8, -1}, {8, 21}, {0, -1}, {0, 21}, {1 << 40, 21}, {8, 63}, {8, 64}, {8, math.MaxInt}, {8, math.MinInt},
		{-1, -1}, {1<<40 + 1, 21}, {math.MinInt, math.MinInt}, {math.MaxInt, math.MaxInt},
	} {
		down, err := Down(c[0], c[1])
		wantArg(t, "Down", c, err)
		up, err := Up(c[0], c[1])
		wantArg(t, "Up", c, err)
		if down != 0 || up != 0 {
			t.Errorf("Down%v = %d, Up = %d beside an error", c, down, up)
		}
	}
}

// slowCut tries each order from the greatest one down.
func slowCut(from, to int) [][2]int {
	var runs [][2]int
	for from < to {
		order := 20
		for from%(1<<order) != 0 || from+1<<order > to {
			order--
		}
		runs = append(runs, [2]int{from, order})
		from += 1 << order
	}
	return runs
}

// checkCut holds a cut against its definition (P1.3), and against what follows (P1.5).
func checkCut(t *testing.T, from, to int) {
	t.Helper()
	runs, err := Cut(from, to)
	if err != nil || !slices.Equal(runs, slowCut(from, to)) {
		t.Fatalf("Cut(%d, %d) = %v, %v", from, to, runs, err)
	}
	at := from
	for i, r := range runs {
		if r[0] != at || r[1] < 0 || r[1] > 20 || r[0]%(1<<r[1]) != 0 {
			t.Fatalf("Cut(%d, %d): run %v at %d", from, to, r, at)
		}
		if i > 0 && runs[i-1][1] == r[1] && runs[i-1][0]%(2<<r[1]) == 0 {
			t.Fatalf("Cut(%d, %d): %v and %v are halves of one run", from, to, runs[i-1], r)
		}
		at += 1 << r[1]
	}
	if at != to {
		t.Fatalf("Cut(%d, %d) ends at %d", from, to, at)
	}
}

func TestCutOfSmallNumbers(t *testing.T) { // P1.3, P1.5
	for from := range 150 {
		for to := from; to <= 150; to++ {
			checkCut(t, from, to)
		}
	}
}

func TestCutAtEdges(t *testing.T) { // P1.3, P1.5
	edges := []int{0, 1<<20 - 1, 1 << 20}
	for o := range 20 {
		edges = append(edges, 1<<o, 1<<o+1, 1<<20-1<<o, 1<<20-1<<o-1, 3<<o&(1<<20-1))
	}
	for _, from := range edges {
		for _, to := range edges {
			if from <= to {
				checkCut(t, from, to)
			}
		}
	}
}

func TestCutExamples(t *testing.T) { // P1.3
	for _, c := range []struct {
		from, to int
		want     [][2]int
	}{
		{3, 9, [][2]int{{3, 0}, {4, 2}, {8, 0}}},
		{0, 1 << 20, [][2]int{{0, 20}}},
		{1 << 19, 1 << 20, [][2]int{{1 << 19, 19}}},
		{0, 7, [][2]int{{0, 2}, {4, 1}, {6, 0}}},
		{1, 8, [][2]int{{1, 0}, {2, 1}, {4, 2}}},
		{4, 12, [][2]int{{4, 2}, {8, 2}}},
		{1<<20 - 1, 1 << 20, [][2]int{{1<<20 - 1, 0}}},
	} {
		if got, err := Cut(c.from, c.to); err != nil || !slices.Equal(got, c.want) {
			t.Errorf("Cut(%d, %d) = %v, %v; want %v", c.from, c.to, got, err, c.want)
		}
	}
}

func TestCutOfNothing(t *testing.T) { // P1.3
	for _, n := range []int{0, 1, 8, 1<<20 - 1, 1 << 20} {
		if got, err := Cut(n, n); err != nil || len(got) != 0 {
			t.Errorf("Cut(%d, %d) = %v, %v", n, n, got, err)
		}
	}
}

func TestCutOfOneRunIsOne(t *testing.T) { // P1.5
	for order := 0; order <= 20; order++ {
		size := 1 << order
		for _, first := range []int{0, size, 3 * size, 1<<20 - size} {
			if first+size > 1<<20 {
				continue
			}
			got, err := Cut(first, first+size)
			if err != nil || !slices.Equal(got, [][2]int{{first, order}}) {
				t.Errorf("Cut(%d, %d) = %v, %v", first, first+size, got, err)
			}
		}
	}
}

func TestCutOfWrongNumbers(t *testing.T) { // P1.3
	for _, c := range [][]int{
		{-1, 0}, {-1, -1}, {-1, 8}, {-8, -16}, {math.MinInt, 0}, {math.MinInt, math.MaxInt},
		{1, 0}, {9, 8}, {1 << 20, 1<<20 - 1}, {0, -1}, {0, math.MinInt}, {math.MaxInt, 0},
		{0, 1<<20 + 1}, {1<<20 + 1, 1<<20 + 1}, {1 << 20, 1<<20 + 1}, {0, math.MaxInt}, {math.MaxInt, math.MaxInt},
	} {
		got, err := Cut(c[0], c[1])
		wantArg(t, "Cut", c, err)
		if len(got) != 0 {
			t.Errorf("Cut%v = %v beside an error", c, got)
		}
	}
}

func TestCutIsNewMemory(t *testing.T) { // P1.4
	want := [][2]int{{3, 0}, {4, 2}, {8, 0}}
	first, _ := Cut(3, 9)
	second, _ := Cut(3, 9)
	for i := range first {
		first[i] = [2]int{-1, -1}
	}
	_ = append(first, [2]int{-1, -1})
	third, _ := Cut(3, 9)
	if !slices.Equal(second, want) || !slices.Equal(third, want) {
		t.Errorf("a change of one answer is seen in others: %v, %v", second, third)
	}
}

func TestNoCallPanics(t *testing.T) { // P1 of the whole, R3
	for _, a := range oddInts {
		Order(a)
		for _, b := range oddInts {
			if n, err := Down(a, b); err != nil && n != 0 {
				t.Errorf("Down(%d, %d) = %d, %v", a, b, n, err)
			}
			if n, err := Up(a, b); err != nil && n != 0 {
				t.Errorf("Up(%d, %d) = %d, %v", a, b, n, err)
			}
			if l, err := Cut(a, b); err != nil && len(l) != 0 {
				t.Errorf("Cut(%d, %d) = %v, %v", a, b, l, err)
			}
			for _, w := range sampleWords {
				if f, err := Field(w, a, b); err != nil && f != 0 {
					t.Errorf("Field(%x, %d, %d) = %x, %v", w, a, b, f, err)
				}
				if p, err := Put(w, a, b, w); err != nil && p != 0 {
					t.Errorf("Put(%x, %d, %d, %x) = %x, %v", w, a, b, w, p, err)
				}
			}
		}
	}
}
