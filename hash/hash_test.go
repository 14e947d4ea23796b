package hash

import (
	"math"
	"math/big"
	"slices"
	"testing"

	"skylight/api"
)

// whole is a number of columns by which every rest stays as it is.
const whole = math.MaxInt

// edges are where seeds and keys begin, or end, to be allowed.
func edges() []uint64 {
	return []uint64{0, 1, api.Prime - 1, api.Prime, math.MaxUint64}
}

// numbers are edges, and what lies between and beside them.
func numbers() []uint64 {
	l := append(edges(), 2, 3, 5, 1<<31, 1<<32+1, 1<<60, 1<<60+1, api.Prime-2, api.Prime+1, 2*api.Prime, 2*api.Prime+1, 1<<63)
	for i := range uint64(12) {
		n := (i + 1) * 0x9e3779b97f4a7c15
		l = append(l, n>>3, n>>(i*5))
	}
	return l
}

// rests are those of numbers that are below api.Prime.
func rests() []uint64 {
	return slices.DeleteFunc(numbers(), func(n uint64) bool { return n >= api.Prime })
}

// widths are numbers of columns, and wrong ones.
func widths() []int {
	return []int{math.MinInt, -7, -1, 0, 1, 2, 3, 10, api.MaxWidth, 1 << 32, api.Prime - 1, api.Prime, api.Prime + 1, whole}
}

// some are seeds that may be, and such as may not.
func some() []api.Seed {
	return []api.Seed{
		{A: 3, B: 4}, {}, {A: 1}, {A: api.Prime}, {A: 3, B: 4}, {A: 3, B: api.Prime},
		{A: api.Prime - 1, B: api.Prime - 1}, {A: 1 << 60, B: 5}, {B: 4}, {A: math.MaxUint64, B: math.MaxUint64},
	}
}

func bigOf(n uint64) *big.Int { return new(big.Int).SetUint64(n) }

func prime() *big.Int { return big.NewInt(api.Prime) }

// wantColumn is P4.1's column, by whole numbers.
func wantColumn(s api.Seed, x uint64, w int) int {
	if w < 1 || s.A == 0 || max(s.A, s.B, x) >= api.Prime {
		return 0
	}
	n := new(big.Int).Mul(bigOf(s.A), bigOf(x))
	n.Add(n, bigOf(s.B))
	n.Mod(n, prime())
	return int(n.Mod(n, big.NewInt(int64(w))).Int64())
}

// P4.1.
func TestMay(t *testing.T) {
	for _, c := range []struct {
		s    api.Seed
		want bool
	}{
		{api.Seed{A: 0, B: 0}, false},
		{api.Seed{A: 0, B: 1}, false},
		{api.Seed{A: 0, B: api.Prime - 1}, false},
		{api.Seed{A: 0, B: api.Prime}, false},
		{api.Seed{A: 0, B: math.MaxUint64}, false},
		{api.Seed{A: 1, B: 0}, true},
		{api.Seed{A: 1, B: 1}, true},
		{api.Seed{A: 1, B: api.Prime - 1}, true},
		{api.Seed{A: 1, B: api.Prime}, false},
		{api.Seed{A: 1, B: math.MaxUint64}, false},
		{api.Seed{A: api.Prime - 1, B: 0}, true},
		{api.Seed{A: api.Prime - 1, B: 1}, true},
		{api.Seed{A: api.Prime - 1, B: api.Prime - 1}, true},
		{api.Seed{A: api.Prime - 1, B: api.Prime}, false},
		{api.Seed{A: api.Prime - 1, B: math.MaxUint64}, false},
		{api.Seed{A: api.Prime, B: 0}, false},
		{api.Seed{A: api.Prime, B: 1}, false},
		{api.Seed{A: api.Prime, B: api.Prime - 1}, false},
		{api.Seed{A: api.Prime, B: api.Prime}, false},
		{api.Seed{A: api.Prime, B: math.MaxUint64}, false},
		{api.Seed{A: math.MaxUint64, B: 0}, false},
		{api.Seed{A: math.MaxUint64, B: 1}, false},
		{api.Seed{A: math.MaxUint64, B: api.Prime - 1}, false},
		{api.Seed{A: math.MaxUint64, B: api.Prime}, false},
		{api.Seed{A: math.MaxUint64, B: math.MaxUint64}, false},
	} {
		if may := May(c.s); may != c.want {
			t.Errorf("May(%v) is %t", c.s, may)
		}
	}
	for _, a := range numbers() {
		for _, b := range numbers() {
			want := a >= 1 && a < api.Prime && b < api.Prime
			if may := May(api.Seed{A: a, B: b}); may != want {
				t.Errorf("May of A %d, B %d is %t", a, b, may)
			}
		}
	}
}

// P4.1.
func TestKey(t *testing.T) {
	for _, c := range []struct {
		x    uint64
		want bool
	}{
		{0, true}, {1, true}, {5, true}, {1 << 60, true}, {api.Prime - 1, true},
		{api.Prime, false}, {api.Prime + 1, false}, {2 * api.Prime, false}, {2*api.Prime + 1, false},
		{1 << 63, false}, {math.MaxUint64, false},
	} {
		if may := Key(c.x); may != c.want {
			t.Errorf("Key(%d) is %t", c.x, may)
		}
	}
}

// P4.1, worked out by hand: ordinary columns, products of more than 64 bits, edges.
func TestColumn(t *testing.T) {
	const last = api.Prime - 1
	for _, c := range []struct {
		s    api.Seed
		x    uint64
		w    int
		want int
	}{
		{api.Seed{A: 3, B: 4}, 5, 10, 9},
		{api.Seed{A: 3, B: 4}, 5, 19, 0},
		{api.Seed{A: 3, B: 4}, 5, 20, 19},
		{api.Seed{A: 3, B: 4}, 5, 2, 1},
		{api.Seed{A: 3, B: 4}, 5, 1, 0},
		{api.Seed{A: 3, B: 4}, 0, 10, 4},
		{api.Seed{A: 3}, 0, 10, 0},
		{api.Seed{A: 1, B: last}, 0, whole, last},
		{api.Seed{A: 1, B: last}, 1, whole, 0},
		{api.Seed{A: 1, B: 1}, last, whole, 0},
		{api.Seed{A: last}, 1, 1000, 950},
		{api.Seed{A: last}, 1, api.Prime, last},
		{api.Seed{A: last}, 1, last, 0},
		{api.Seed{A: last}, last, whole, 1},
		{api.Seed{A: last, B: 1}, last, 2, 0},
		{api.Seed{A: last, B: last}, last, whole, 0},
		{api.Seed{A: 2}, 1 << 60, whole, 1},
		{api.Seed{A: 1 << 60, B: 5}, 1 << 60, whole, 1<<59 + 5},
		{api.Seed{A: 1 << 60, B: 5}, 1 << 60, 10, 3},
		{api.Seed{A: 1 << 32}, 1 << 32, whole, 8},
	} {
		if n := Column(c.s, c.x, c.w); n != c.want {
			t.Errorf("Column(%v, %d, %d) is %d, want %d", c.s, c.x, c.w, n, c.want)
		}
	}
}

// P4.1: 0 of what may not be, where all else would make another column.
func TestColumnOfWrong(t *testing.T) {
	good := api.Seed{A: 3, B: 4}
	for _, c := range []struct {
		what string
		s    api.Seed
		x    uint64
		w    int
	}{
		{"w 0", good, 5, 0},
		{"w -1", good, 5, -1},
		{"w -10", good, 5, -10},
		{"the least w", good, 5, math.MinInt},
		{"A 0", api.Seed{B: 4}, 5, 10},
		{"A api.Prime", api.Seed{A: api.Prime, B: 4}, 5, 10},
		{"A above api.Prime", api.Seed{A: api.Prime + 3, B: 4}, 5, 10},
		{"the greatest A", api.Seed{A: math.MaxUint64, B: 4}, 5, 10},
		{"B api.Prime", api.Seed{A: 3, B: api.Prime}, 5, 10},
		{"B above api.Prime", api.Seed{A: 3, B: api.Prime + 4}, 5, 10},
		{"the greatest B", api.Seed{A: 3, B: math.MaxUint64}, 5, 10},
		{"the key api.Prime", good, api.Prime, 10},
		{"a key above api.Prime", good, api.Prime + 5, 10},
		{"the greatest key", good, math.MaxUint64, 10},
	} {
		if n := Column(c.s, c.x, c.w); n != 0 {
			t.Errorf("%s: Column(%v, %d, %d) is %d", c.what, c.s, c.x, c.w, n)
		}
	}
}

// P4.1: each with each, ordinary ones, edges and wrong ones.
func TestColumnEachWithEach(t *testing.T) {
	for _, a := range numbers() {
		for _, b := range numbers() {
			s := api.Seed{A: a, B: b}
			for _, x := range numbers() {
				for _, w := range widths() {
					if n, want := Column(s, x, w), wantColumn(s, x, w); n != want {
						t.Fatalf("Column(%v, %d, %d) is %d, want %d", s, x, w, n, want)
					}
				}
			}
		}
	}
}

// P4.1: of no seed, of one, of several, of one twice, and of some that may not be.
func TestColumns(t *testing.T) {
	for _, c := range []struct {
		seeds []api.Seed
		x     uint64
		w     int
		want  []int
	}{
		{nil, 5, 10, nil},
		{[]api.Seed{}, 5, 10, nil},
		{nil, api.Prime, 0, nil},
		{[]api.Seed{{A: 3, B: 4}}, 5, 10, []int{9}},
		{[]api.Seed{{A: 3, B: 4}, {A: 1}}, 5, 10, []int{9, 5}},
		{[]api.Seed{{A: 1}, {A: 3, B: 4}}, 5, 10, []int{5, 9}},
		{[]api.Seed{{A: 3, B: 4}, {A: 3, B: 4}}, 5, 10, []int{9, 9}},
		{[]api.Seed{{A: 3, B: 4}, {A: 1}, {A: 3, B: 4}}, 5, 10, []int{9, 5, 9}},
		{[]api.Seed{{B: 4}, {A: 3, B: 4}, {A: 3, B: api.Prime}, {A: api.Prime}, {A: 1}}, 5, 10, []int{0, 9, 0, 0, 5}},
		{[]api.Seed{{}}, 5, 10, []int{0}},
		{[]api.Seed{{A: 3, B: 4}, {A: 1}}, 5, 0, []int{0, 0}},
		{[]api.Seed{{A: 3, B: 4}, {A: 1}}, 5, -3, []int{0, 0}},
		{[]api.Seed{{A: 3, B: 4}, {A: 1}}, api.Prime, 10, []int{0, 0}},
	} {
		if l := Columns(c.seeds, c.x, c.w); !slices.Equal(l, c.want) {
			t.Errorf("Columns(%v, %d, %d) is %v, want %v", c.seeds, c.x, c.w, l, c.want)
		}
	}
}

// P4.1: each row is what its seed alone makes, whatever stands beside it.
func TestColumnsRowByRow(t *testing.T) {
	for _, x := range numbers() {
		for _, w := range widths() {
			for many := range len(some()) + 1 {
				seeds := some()[:many]
				want := make([]int, many)
				for i, s := range seeds {
					want[i] = wantColumn(s, x, w)
				}
				if l := Columns(seeds, x, w); !slices.Equal(l, want) {
					t.Fatalf("Columns(%v, %d, %d) is %v, want %v", seeds, x, w, l, want)
				}
			}
		}
	}
}

// A loop over the rows may end ahead of the last one.
func TestColumnsEndEarly(t *testing.T) {
	last := -1
	for row := range columns(some(), 5, 10) {
		if last = row; row == 1 {
			break
		}
	}
	if last != 1 {
		t.Errorf("the loop ended at row %d", last)
	}
}

// R3: what is handed in stays as it is, and so does what lies behind it.
func TestColumnsLeaveSeeds(t *testing.T) {
	all := some()
	Columns(all[:3], 5, 10)
	Columns(all, 5, 10)
	if !slices.Equal(all, some()) {
		t.Errorf("the seeds became %v", all)
	}
}

// R4: what a caller does with one answer is not seen in another one.
func TestColumnsKeepNothing(t *testing.T) {
	first := Columns(some(), 5, 10)
	want := slices.Clone(first)
	second := Columns(some(), 5, 10)
	clear(first)
	if !slices.Equal(second, want) {
		t.Errorf("the second answer became %v, want %v", second, want)
	}
	if third := Columns(some(), 5, 10); !slices.Equal(third, want) {
		t.Errorf("the third answer is %v, want %v", third, want)
	}
}

// makerOf is the one seed that makes the rests p and q of the keys x and y: A is (p - q) / (x - y), B is p - A x.
func makerOf(x, y, p, q uint64) api.Seed {
	run := new(big.Int).Sub(bigOf(x), bigOf(y))
	run.ModInverse(run.Mod(run, prime()), prime())
	a := new(big.Int).Sub(bigOf(p), bigOf(q))
	a.Mod(a.Mul(a, run), prime())
	b := new(big.Int).Mul(a, bigOf(x))
	b.Mod(b.Sub(bigOf(p), b), prime())
	return api.Seed{A: a.Uint64(), B: b.Uint64()}
}

// makes tells whether a seed may be, and makes the rests p and q of the keys x and y.
func makes(s api.Seed, x, y, p, q uint64) bool {
	return May(s) && uint64(Column(s, x, whole)) == p && uint64(Column(s, y, whole)) == q
}

// pairs calls with each two unlike numbers of a list, in both turns.
func pairs(l []uint64, call func(a, b uint64)) {
	for _, a := range l {
		for _, b := range l {
			if a != b {
				call(a, b)
			}
		}
	}
}

// beside are seeds that differ from one by a little, by its turn, or by much.
func beside(s api.Seed) []api.Seed {
	up := func(n uint64) uint64 { return (n + 1) % api.Prime }
	down := func(n uint64) uint64 { return (n + api.Prime - 1) % api.Prime }
	l := []api.Seed{
		{A: up(s.A), B: s.B}, {A: down(s.A), B: s.B},
		{A: s.A, B: up(s.B)}, {A: s.A, B: down(s.B)},
		{A: up(s.A), B: down(s.B)}, {A: down(s.A), B: up(s.B)},
		{A: s.B, B: s.A}, {A: api.Prime - s.A, B: s.B},
		{A: s.A + api.Prime, B: s.B}, {A: s.A, B: s.B + api.Prime},
	}
	l = append(l, some()...)
	return slices.DeleteFunc(l, func(o api.Seed) bool { return o == s })
}

// P4.2, P8: one seed makes two unlike rests of two unlike keys, and the seeds beside it do not.
func TestOneSeedMakesThem(t *testing.T) {
	few := []uint64{0, 1, 2, 5, 1 << 60, 0x9e3779b97f4a7c15 >> 3, api.Prime - 2, api.Prime - 1}
	pairs(few, func(x, y uint64) {
		pairs(few, func(p, q uint64) {
			s := makerOf(x, y, p, q)
			if !makes(s, x, y, p, q) {
				t.Fatalf("%v makes %d of %d and %d of %d, not %d and %d", s, Column(s, x, whole), x, Column(s, y, whole), y, p, q)
			}
			for _, o := range beside(s) {
				if makes(o, x, y, p, q) {
					t.Fatalf("%v, too, makes %d of %d and %d of %d, beside %v", o, p, x, q, y, s)
				}
			}
		})
	})
}

// P4.2, P8: by what a seed makes of two unlike keys it is known, as no other one makes that of them.
func TestSeedIsKnownByRests(t *testing.T) {
	var seeds []api.Seed
	for _, a := range rests() {
		for _, b := range rests() {
			if a != 0 {
				seeds = append(seeds, api.Seed{A: a, B: b})
			}
		}
	}
	pairs([]uint64{0, 1, 3, 1 << 60, api.Prime - 2, api.Prime - 1}, func(x, y uint64) {
		for _, s := range seeds {
			p, q := uint64(Column(s, x, whole)), uint64(Column(s, y, whole))
			if p == q || p >= api.Prime || q >= api.Prime {
				t.Fatalf("%v makes %d of %d and %d of %d", s, p, x, q, y)
			}
			if o := makerOf(x, y, p, q); o != s {
				t.Fatalf("%v makes %d of %d and %d of %d, but so does %v", s, p, x, q, y, o)
			}
		}
	})
}
