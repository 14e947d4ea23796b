package hist

import (
	"iter"
	"math"
	"math/big"
	"slices"
	"testing"

	"skylight/api"
	"skylight/level"
)

// come is weight of a tick.
type come struct{ tick, weight uint64 }

// s is buckets by their From and To.
func s(ticks ...uint64) []api.Span {
	var l []api.Span
	for pair := range slices.Chunk(ticks, 2) {
		l = append(l, api.Span{From: pair[0], To: pair[1]})
	}
	return l
}

// alike are so many buckets of one tick.
func alike(many int, tick uint64) []api.Span {
	return slices.Repeat(s(tick, tick), many)
}

// made is a histogram to which some came.
func made(t *testing.T, k int, all ...come) Hist {
	t.Helper()
	h, e := New(k)
	if e != api.OK {
		t.Fatalf("New(%d) tells %d", k, e)
	}
	return added(t, h, all...)
}

// added is a histogram to which some more came.
func added(t *testing.T, h Hist, all ...come) Hist {
	t.Helper()
	for _, c := range all {
		next, e := Add(h, c.tick, c.weight)
		if e != api.OK {
			t.Fatalf("Add(%v, %d, %d) tells %d", h, c.tick, c.weight, e)
		}
		h = next
	}
	return h
}

// deep is a copy of a histogram that shares nothing with it.
func deep(h Hist) Hist {
	var all [][]api.Span
	for _, l := range h.Levels {
		all = append(all, slices.Clone(l))
	}
	h.Levels = all
	return h
}

// equal tells whether two histograms are the same, by all their fields; nil and empty are alike.
func equal(a, b Hist) bool {
	return a.K == b.K && a.Gen == b.Gen && slices.EqualFunc(a.Levels, b.Levels, slices.Equal[[]api.Span])
}

// isZero tells whether a histogram is the zero one.
func isZero(h Hist) bool { return h.K == 0 && h.Gen == 0 && len(h.Levels) == 0 }

// mostOf is how many buckets a level has at most, by P5.1.
func mostOf(k, i int) int {
	if i == 0 {
		return k + 1
	}
	return (k+1)/2 + 1
}

// byUnits is what Add should tell, by units that come one by one, each pair of them going up at once.
func byUnits(h Hist, tick, weight uint64) Hist {
	h = deep(h)
	for range weight {
		b := api.Span{From: tick, To: tick}
		for i := 0; ; i++ {
			if i == len(h.Levels) {
				h.Levels = append(h.Levels, nil)
			}
			l := append(h.Levels[i], b)
			if len(l) <= mostOf(h.K, i) {
				h.Levels[i] = l
				break
			}
			b = api.Span{From: l[0].From, To: l[1].To}
			h.Levels[i] = l[2:]
		}
	}
	return h
}

// run is so many buckets that are alike, one behind the other.
type run struct {
	span api.Span
	many uint64
}

// paired are the first buckets of some runs, by pairs, so many of these, and what is left of the runs.
func paired(l []run, pairs uint64) ([]run, []run) {
	var out []run
	l = slices.Clone(l)
	for pairs > 0 {
		if l[0].many >= 2 {
			n := min(pairs, l[0].many/2)
			out = append(out, run{l[0].span, n})
			l[0].many -= 2 * n
			pairs -= n
		} else if l[0].many == 1 {
			for l[1].many == 0 {
				l = slices.Delete(l, 1, 2)
			}
			out = append(out, run{api.Span{From: l[0].span.From, To: l[1].span.To}, 1})
			l[1].many--
			l = l[1:]
			pairs--
		} else {
			l = l[1:]
		}
	}
	return out, l
}

// byRuns is what Add should tell, level by level: so many stay as are most of it, or one less, that what goes is pairs.
func byRuns(h Hist, tick, weight uint64) Hist {
	comes := []run{{api.Span{From: tick, To: tick}, weight}}
	out := Hist{K: h.K, Gen: h.Gen}
	for i := 0; len(comes) > 0 || i < len(h.Levels); i++ {
		var all []run
		if i < len(h.Levels) {
			for _, b := range h.Levels[i] {
				all = append(all, run{b, 1})
			}
		}
		all = append(all, comes...)
		var n uint64
		for _, r := range all {
			n += r.many
		}
		stay := n
		if most := uint64(mostOf(h.K, i)); n > most {
			stay = most - (most+n)%2
		}
		var rest []run
		comes, rest = paired(all, (n-stay)/2)
		var l []api.Span
		for _, r := range rest {
			l = append(l, slices.Repeat([]api.Span{r.span}, int(r.many))...)
		}
		out.Levels = append(out.Levels, l)
	}
	return out
}

// ks are numbers of k: all small ones, odd and even, and great ones.
func ks() []int { return []int{2, 3, 4, 5, 6, 7, 8, 9, 16, 31, 1023, 1024} }

// fews are weights that may come one by one.
func fews() []uint64 {
	return []uint64{1, 2, 3, 4, 5, 6, 7, 8, 9, 10, 11, 12, 13, 15, 16, 17, 31, 32, 33, 100, 101, 255, 256, 1025, 1026, 2051, 5000}
}

// greats are weights that may not come one by one.
func greats() []uint64 {
	return []uint64{1 << 31, 1<<32 + 1, 1<<40 - 1, 1 << 40, 1<<40 + 1, 3<<50 + 12345, api.MaxTotal / 3, api.MaxTotal - 1, api.MaxTotal}
}

// streams are weights one behind the other, by rising ticks: units, several of one tick, ticks that are skipped, weights of all sizes.
func streams() [][]come {
	all := [][]come{nil, {{0, 1}}, {{0, 2}, {0, 1}}, {{7, 1}, {7, 2}, {9, 40}}, {{api.MaxTick, 77}, {api.MaxTick, 3}}}
	var units, mixed, growing []come
	for i := range uint64(70) {
		units = append(units, come{i + 1, 1})
		mixed = append(mixed, come{3 * (i / 2), i*i%23 + 1})
		growing = append(growing, come{1<<40 + i*i, i + 1})
	}
	return append(all, units, mixed, growing)
}

// eachHist calls with histograms that were made, of each k and stream, as they were behind each of its weights; and of the longer ones behind some.
func eachHist(t *testing.T, call func(h Hist)) {
	t.Helper()
	for _, k := range ks() {
		for _, stream := range streams() {
			h := made(t, k)
			call(h)
			for i, c := range stream {
				h = added(t, h, c)
				if i < 6 || i%9 == 0 || i == len(stream)-1 {
					call(h)
				}
			}
		}
	}
}

// dropped are histograms as chapter 7 leaves them: one more of the oldest buckets is gone each time, and the levels that have none then.
func dropped(h Hist) iter.Seq[Hist] {
	return func(yield func(Hist) bool) {
		for yield(h) && len(h.Levels) > 0 {
			last := len(h.Levels) - 1
			h.Levels = slices.Clone(h.Levels)
			if h.Levels[last] = h.Levels[last][1:]; len(h.Levels[last]) == 0 {
				h.Levels = h.Levels[:last]
			}
		}
	}
}

// lastOf is Last, or 0.
func lastOf(h Hist) uint64 {
	last, _ := Last(h)
	return last
}

// P6.1.
func TestNew(t *testing.T) {
	for _, k := range []int{2, 3, 4, 5, 512, 1000, 1023, 1024} {
		if h, e := New(k); e != api.OK || h.K != k || h.Gen != 0 || len(h.Levels) != 0 {
			t.Errorf("New(%d) is %v, %d", k, h, e)
		}
	}
	for _, k := range []int{math.MinInt, -1024, -3, -2, -1, 0, 1, 1025, 1026, 2048, 1 << 32, 1<<32 + 2, math.MaxInt - 1, math.MaxInt} {
		if h, e := New(k); e != api.ErrConf || !isZero(h) {
			t.Errorf("New(%d) is %v, %d, want the zero one and %d", k, h, e, api.ErrConf)
		}
	}
}

// The example of the chapter, and the third one of the whole.
func TestAddExample(t *testing.T) {
	h := made(t, 2, come{5, 4})
	if want := (Hist{K: 2, Levels: [][]api.Span{s(5, 5, 5, 5), s(5, 5)}}); !equal(h, want) {
		t.Errorf("it is %v, want %v", h, want)
	}
}

// P6.2, worked out by hand.
func TestAdd(t *testing.T) {
	for _, c := range []struct {
		k    int
		all  []come
		want [][]api.Span
	}{
		{2, nil, nil},
		{2, []come{{5, 1}}, [][]api.Span{s(5, 5)}},
		{2, []come{{5, 2}}, [][]api.Span{s(5, 5, 5, 5)}},
		{2, []come{{5, 3}}, [][]api.Span{alike(3, 5)}},
		{2, []come{{5, 5}}, [][]api.Span{alike(3, 5), s(5, 5)}},
		{2, []come{{5, 6}}, [][]api.Span{alike(2, 5), alike(2, 5)}},
		{2, []come{{5, 7}}, [][]api.Span{alike(3, 5), alike(2, 5)}},
		{2, []come{{5, 8}}, [][]api.Span{alike(2, 5), alike(1, 5), alike(1, 5)}},
		{2, []come{{5, 4}, {7, 3}}, [][]api.Span{alike(3, 7), s(5, 5, 5, 5)}},
		{2, []come{{5, 4}, {7, 4}}, [][]api.Span{alike(2, 7), s(7, 7), s(5, 5)}},
		{2, []come{{1, 1}, {2, 1}, {3, 1}, {4, 1}}, [][]api.Span{s(3, 3, 4, 4), s(1, 2)}},
		{2, []come{{1, 1}, {2, 1}, {3, 1}, {4, 1}, {5, 1}, {6, 1}, {7, 1}, {8, 1}}, [][]api.Span{s(7, 7, 8, 8), s(5, 6), s(1, 4)}},
		{2, []come{{1, 1}, {9, 5}}, [][]api.Span{alike(2, 9), s(1, 9, 9, 9)}},
		{2, []come{{0, 1}, {api.MaxTick, 7}}, [][]api.Span{alike(2, api.MaxTick), alike(1, api.MaxTick), s(0, api.MaxTick)}},
		{3, []come{{1, 4}}, [][]api.Span{alike(4, 1)}},
		{3, []come{{1, 4}, {2, 1}}, [][]api.Span{s(1, 1, 1, 1, 2, 2), s(1, 1)}},
		{3, []come{{1, 3}, {2, 10}}, [][]api.Span{alike(3, 2), s(2, 2, 2, 2, 2, 2), s(1, 2)}},
		{4, []come{{1, 5}}, [][]api.Span{alike(5, 1)}},
		{4, []come{{1, 5}, {2, 7}}, [][]api.Span{alike(4, 2), s(1, 2, 2, 2), s(1, 1)}},
		{1024, []come{{1, 1025}}, [][]api.Span{alike(1025, 1)}},
		{1024, []come{{1, 1025}, {2, 1}}, [][]api.Span{append(alike(1023, 1), s(2, 2)...), s(1, 1)}},
	} {
		if h, want := made(t, c.k, c.all...), (Hist{K: c.k, Levels: c.want}); !equal(h, want) {
			t.Errorf("of K %d, %v: it is %v, want %v", c.k, c.all, h, want)
		}
	}
}

// P6.2, P6.4: each weight, with each histogram, held against units that come one by one.
func TestAddByUnits(t *testing.T) {
	eachHist(t, func(h Hist) {
		for _, weight := range fews() {
			if h.K > 31 && weight > 40 && weight < 1000 {
				continue
			}
			for _, tick := range []uint64{lastOf(h), min(lastOf(h)+3, api.MaxTick), api.MaxTick} {
				got, e := Add(h, tick, weight)
				if want := byUnits(h, tick, weight); e != api.OK || !equal(got, want) {
					t.Fatalf("Add(%v, %d, %d) is %v, %d, want %v", h, tick, weight, got, e, want)
				}
			}
		}
	})
}

// P6.2, P6.4: histograms of which old buckets were dropped, held against units that come one by one.
func TestAddToDroppedByUnits(t *testing.T) {
	for _, k := range ks() {
		for _, stream := range streams() {
			for h := range dropped(made(t, k, stream...)) {
				for _, weight := range []uint64{1, 2, 3, 10, 77} {
					got, e := Add(h, api.MaxTick, weight)
					if want := byUnits(h, api.MaxTick, weight); e != api.OK || !equal(got, want) {
						t.Fatalf("Add(%v, MaxTick, %d) is %v, %d, want %v", h, weight, got, e, want)
					}
				}
			}
		}
	}
}

// P6.4: weight that comes all at once is as units, and as any parts of it, each by a call of its own.
func TestAddInParts(t *testing.T) {
	eachHist(t, func(h Hist) {
		tick := min(lastOf(h)+2, api.MaxTick)
		units := h
		for weight := range uint64(60) {
			units = added(t, units, come{tick, 1})
			if once := added(t, h, come{tick, weight + 1}); !equal(once, units) {
				t.Fatalf("of %v and %d of the tick %d at once it is %v, by units %v", h, weight+1, tick, once, units)
			}
		}
		for _, weight := range greats() {
			weight = min(weight, api.MaxTotal-Total(h))
			once := added(t, h, come{tick, weight})
			for _, part := range []uint64{1, 2, 3, 1000, weight / 3, weight / 2, weight - 1} {
				if two := added(t, h, come{tick, part}, come{tick, weight - part}); !equal(once, two) {
					t.Fatalf("of %v and %d of the tick %d at once it is %v, with %d of it first %v", h, weight, tick, once, part, two)
				}
			}
		}
	})
}

// byRuns may be trusted with great weights, if it does as units that come one by one.
func TestRunsAsUnits(t *testing.T) {
	eachHist(t, func(h Hist) {
		for _, weight := range []uint64{1, 2, 3, 4, 17, 2048} {
			if got, want := byRuns(h, api.MaxTick, weight), byUnits(h, api.MaxTick, weight); !equal(got, want) {
				t.Fatalf("of %v and %d it is %v, want %v", h, weight, got, want)
			}
		}
	})
}

// P6.2, P1: weights that could not be gone through one by one.
func TestAddOfGreatWeight(t *testing.T) {
	eachHist(t, func(h Hist) {
		for _, weight := range greats() {
			weight = min(weight, api.MaxTotal-Total(h))
			got, e := Add(h, api.MaxTick, weight)
			if want := byRuns(h, api.MaxTick, weight); e != api.OK || !equal(got, want) {
				t.Fatalf("Add(%v, MaxTick, %d) is %v, %d, want %v", h, weight, got, e, want)
			}
		}
	})
}

// P6.2, worked out by hand: all that may come, to the least and the greatest K.
func TestAddOfAllThatMayCome(t *testing.T) {
	// 2 and 2 and 4 and so on, up to 2^51, are 2^52.
	fine := Hist{K: 2, Levels: [][]api.Span{alike(2, 9)}}
	for len(fine.Levels) < 52 {
		fine.Levels = append(fine.Levels, alike(1, 9))
	}
	if h := made(t, 2, come{9, api.MaxTotal}); !equal(h, fine) {
		t.Errorf("of K 2 it is %v, want %v", h, fine)
	}
	// 1024, and 512 times each of 2, 4 and so on, up to 2^42, are 2^52.
	great := Hist{K: 1024, Levels: [][]api.Span{alike(1024, 9)}}
	for len(great.Levels) < 43 {
		great.Levels = append(great.Levels, alike(512, 9))
	}
	if h := made(t, 1024, come{9, api.MaxTotal}); !equal(h, great) {
		t.Errorf("of K 1024 it is %v, want %v", h, great)
	}
	if h := made(t, 2, come{9, 1 << 40}); len(h.Levels) != 40 || len(h.Levels[0]) != 2 || len(h.Levels[39]) != 1 {
		t.Errorf("of K 2 and 2^40 it is %v", h)
	}
	if h := made(t, 2, come{9, 1<<40 - 1}); len(h.Levels) != 39 || len(h.Levels[0]) != 3 || len(h.Levels[38]) != 2 {
		t.Errorf("of K 2 and 2^40 less 1 it is %v", h)
	}
}

// P6.2: the errors, and which one is told where several hold; R1: what is told beside them is the zero histogram.
func TestAddErrors(t *testing.T) {
	empty, some, late, full := made(t, 2), made(t, 3, come{5, 4}, come{7, 3}), made(t, 4, come{api.MaxTick, 6}), made(t, 5, come{7, api.MaxTotal})
	merged := deep(some)
	merged.Gen = 4
	const beyond = api.MaxTick + 1
	for _, c := range []struct {
		what         string
		h            Hist
		tick, weight uint64
		want         api.Errno
	}{
		{"no weight, empty", empty, 0, 0, api.ErrArg},
		{"no weight", some, 7, 0, api.ErrArg},
		{"no weight, of one that is full", full, 7, 0, api.ErrArg},
		{"no weight, below Last", some, 6, 0, api.ErrArg},
		{"no weight, above MaxTick", some, beyond, 0, api.ErrArg},
		{"no weight, above MaxTick, empty", empty, math.MaxUint64, 0, api.ErrArg},
		{"below Last, full, no weight", full, 6, 0, api.ErrArg},
		{"the least tick", empty, 0, 1, api.OK},
		{"the greatest tick", empty, api.MaxTick, 1, api.OK},
		{"above MaxTick, empty", empty, beyond, 1, api.ErrTick},
		{"the greatest number, empty", empty, math.MaxUint64, 1, api.ErrTick},
		{"above MaxTick", some, beyond, 1, api.ErrTick},
		{"the greatest number", some, math.MaxUint64, 1, api.ErrTick},
		{"above MaxTick, and Last is that", late, beyond, 1, api.ErrTick},
		{"below Last by one", some, 6, 1, api.ErrTick},
		{"at an earlier unit's", some, 5, 1, api.ErrTick},
		{"far below Last", some, 0, 1, api.ErrTick},
		{"below MaxTick, as Last is that", late, api.MaxTick - 1, 1, api.ErrTick},
		{"at Last", some, 7, 1, api.OK},
		{"at Last, and that is MaxTick", late, api.MaxTick, 1, api.OK},
		{"above Last", some, 8, 1, api.OK},
		{"far above Last", some, api.MaxTick, 1, api.OK},
		{"merged", merged, 8, 1, api.OK},
		{"merged, below Last", merged, 6, 1, api.ErrTick},
		{"all, empty", empty, 3, api.MaxTotal, api.OK},
		{"one more, empty", empty, 3, api.MaxTotal + 1, api.ErrOver},
		{"all that is left", some, 7, api.MaxTotal - 7, api.OK},
		{"one more", some, 7, api.MaxTotal - 6, api.ErrOver},
		{"all", some, 7, api.MaxTotal, api.ErrOver},
		{"one, of one that is full", full, 7, 1, api.ErrOver},
		{"all, of one that is full", full, 8, api.MaxTotal, api.ErrOver},
		{"2^63", some, 7, 1 << 63, api.ErrOver},
		{"the greatest weight, empty", empty, 7, math.MaxUint64, api.ErrOver},
		{"the greatest weight", some, 7, math.MaxUint64, api.ErrOver},
		{"with Total it is 2^64", some, 7, math.MaxUint64 - 6, api.ErrOver},
		{"with Total it is 2^64 and 1", some, 7, math.MaxUint64 - 5, api.ErrOver},
		{"with Total it is 2^64, full", full, 7, math.MaxUint64 - api.MaxTotal + 1, api.ErrOver},
		{"with Total it is 2^64 and 1, full", full, 7, math.MaxUint64 - api.MaxTotal + 2, api.ErrOver},
		{"below Last, and too much", some, 6, api.MaxTotal, api.ErrTick},
		{"above MaxTick, and too much", some, beyond, math.MaxUint64, api.ErrTick},
		{"above MaxTick, and too much, empty", empty, beyond, api.MaxTotal + 1, api.ErrTick},
		{"below Last, full", full, 6, 1, api.ErrTick},
	} {
		before := deep(c.h)
		h, e := Add(c.h, c.tick, c.weight)
		if e != c.want {
			t.Errorf("%s: Add(%v, %d, %d) tells %d, want %d", c.what, c.h, c.tick, c.weight, e, c.want)
		}
		if e != api.OK && !isZero(h) {
			t.Errorf("%s: with %d it is %v", c.what, e, h)
		}
		if e == api.OK && (Total(h) != Total(c.h)+c.weight || lastOf(h) != c.tick || h.K != c.h.K || h.Gen != c.h.Gen) {
			t.Errorf("%s: Add(%v, %d, %d) is %v", c.what, c.h, c.tick, c.weight, h)
		}
		if !equal(c.h, before) {
			t.Errorf("%s: what was handed in is %v, it was %v", c.what, c.h, before)
		}
	}
}

// P6.2: one that was refused goes on as if nothing had been asked; one that has no bucket any more takes any tick.
func TestAddBehindRefusal(t *testing.T) {
	h := made(t, 2, come{5, 4})
	Add(h, 4, 1)
	Add(h, 5, 0)
	Add(h, 9, api.MaxTotal)
	if got, want := added(t, h, come{5, 1}), made(t, 2, come{5, 5}); !equal(got, want) {
		t.Errorf("it is %v, want %v", got, want)
	}
	for h = range dropped(h) {
	}
	if got, want := added(t, h, come{0, 5}), made(t, 2, come{0, 5}); !equal(got, want) {
		t.Errorf("without a bucket it is %v, want %v", got, want)
	}
}

// P6.2, R7: K and Gen stay as they are.
func TestAddKeepsKAndGen(t *testing.T) {
	for _, k := range ks() {
		for gen := range api.MaxGen + 1 {
			for _, stream := range streams() {
				h := made(t, k, stream...)
				h.Gen = gen
				if got := added(t, h, come{api.MaxTick, 5}); got.K != k || got.Gen != gen {
					t.Errorf("of K %d and Gen %d it is one of %d and %d", k, gen, got.K, got.Gen)
				}
			}
		}
	}
}

// P6.3, by whole numbers.
func TestTotal(t *testing.T) {
	for _, c := range []struct {
		levels [][]api.Span
		want   uint64
	}{
		{nil, 0},
		{[][]api.Span{s(0, 0)}, 1},
		{[][]api.Span{alike(3, 8)}, 3},
		{[][]api.Span{alike(2, 8), s(1, 8)}, 4},
		{[][]api.Span{alike(3, 8), s(1, 8, 8, 8)}, 7},
		{[][]api.Span{alike(2, 8), s(1, 8), s(0, 1)}, 8},
		{[][]api.Span{alike(3, 8), s(1, 8, 8, 8), s(0, 0), s(0, 0, 0, 0)}, 27},
	} {
		if n := Total(Hist{K: 2, Levels: c.levels}); n != c.want {
			t.Errorf("Total of %v is %d, want %d", c.levels, n, c.want)
		}
	}
	eachHist(t, func(h Hist) {
		h = added(t, h, come{api.MaxTick, api.MaxTotal - Total(h)})
		left := 60
		for h := range dropped(h) {
			if left--; left < 0 {
				return
			}
			want := new(big.Int)
			for i, l := range h.Levels {
				n := big.NewInt(int64(len(l)))
				want.Add(want, n.Lsh(n, uint(i)))
			}
			if n := Total(h); want.Cmp(new(big.Int).SetUint64(n)) != 0 {
				t.Fatalf("Total of %v is %d, want %v", h, n, want)
			}
		}
	})
}

// P6.4, P3: Total grows by just the weight that comes.
func TestTotalGrows(t *testing.T) {
	eachHist(t, func(h Hist) {
		for _, weight := range append(fews(), greats()...) {
			weight = min(weight, api.MaxTotal-Total(h))
			if got := added(t, h, come{api.MaxTick, weight}); Total(got) != Total(h)+weight {
				t.Fatalf("Total was %d, with %d it is %d", Total(h), weight, Total(got))
			}
		}
	})
	for _, k := range ks() {
		for _, stream := range streams() {
			var came uint64
			for _, c := range stream {
				came += c.weight
			}
			if n := Total(made(t, k, stream...)); n != came {
				t.Errorf("of K %d Total is %d, but %d came", k, n, came)
			}
		}
	}
}

// P6.3.
func TestLast(t *testing.T) {
	for _, h := range []Hist{{}, made(t, 2), made(t, 1024), {K: 2, Levels: [][]api.Span{}}} {
		if tick, ok := Last(h); tick != 0 || ok {
			t.Errorf("Last(%v) is %d, %v", h, tick, ok)
		}
	}
	for _, c := range []struct {
		levels [][]api.Span
		want   uint64
	}{
		{[][]api.Span{s(0, 0)}, 0},
		{[][]api.Span{s(1, 1)}, 1},
		{[][]api.Span{s(1, 1, 2, 2)}, 2},
		{[][]api.Span{s(3, 3, 7, 7), s(1, 2)}, 7},
		{[][]api.Span{s(3, 3, 3, 3, 8, 8), s(1, 2, 2, 3)}, 8},
		{[][]api.Span{s(0, 0, api.MaxTick, api.MaxTick)}, api.MaxTick},
	} {
		if tick, ok := Last(Hist{K: 2, Levels: c.levels}); tick != c.want || !ok {
			t.Errorf("Last of %v is %d, %v, want %d", c.levels, tick, ok, c.want)
		}
	}
	for _, k := range ks() {
		for _, stream := range streams() {
			h := made(t, k)
			for _, c := range stream {
				h = added(t, h, c)
				if tick, ok := Last(h); tick != c.tick || !ok {
					t.Fatalf("Last(%v) is %d, %v, want %d", h, tick, ok, c.tick)
				}
			}
		}
	}
}

// P6.4: each level below the last one has Least buckets, or one more; the last one has one at least, and one more than Least at most.
func TestShape(t *testing.T) {
	check := func(h Hist) {
		for i, l := range h.Levels {
			least := level.Least(h.K, i)
			if i == len(h.Levels)-1 {
				least = 1
			}
			if len(l) < least || len(l) > level.Least(h.K, i)+1 {
				t.Fatalf("of K %d the level %d of %d has %d buckets", h.K, i, len(h.Levels), len(l))
			}
		}
	}
	eachHist(t, func(h Hist) {
		check(h)
		for _, weight := range append(fews(), greats()...) {
			check(added(t, h, come{api.MaxTick, min(weight, api.MaxTotal-Total(h))}))
		}
	})
	for _, k := range ks() {
		for _, stream := range streams() {
			for h := range dropped(made(t, k, stream...)) {
				check(h)
				check(added(t, h, come{api.MaxTick, 3}))
			}
		}
	}
}

// P6.2: a level comes to be just when the one below it has no place left.
func TestLevelsComeToBe(t *testing.T) {
	for _, k := range []int{2, 3, 4, 5, 8, 9} {
		h := made(t, k)
		room, many := uint64(0), 0
		for n := range uint64(3000) {
			if n == room {
				room += uint64(mostOf(k, many)) << many
				many++
			}
			h = added(t, h, come{n, 1})
			if len(h.Levels) != many {
				t.Fatalf("of K %d and %d units there are %d levels, want %d", k, n+1, len(h.Levels), many)
			}
		}
	}
}

// P6.2: buckets stand in turn, the oldest ones on the last level; on level 0 each is of one tick.
func TestTurn(t *testing.T) {
	check := func(h Hist) {
		var ahead uint64
		for i, l := range slices.Backward(h.Levels) {
			for _, b := range l {
				if b.From > b.To || b.From < ahead || i == 0 && b.From != b.To {
					t.Fatalf("in %v %v of the level %d stands behind %d", h, b, i, ahead)
				}
				ahead = b.To
			}
		}
	}
	eachHist(t, func(h Hist) {
		check(h)
		for _, weight := range append(fews(), greats()...) {
			check(added(t, h, come{min(lastOf(h)+9, api.MaxTick), min(weight, api.MaxTotal-Total(h))}))
		}
	})
}

// P3: units of unlike ticks all stay: the buckets, in turn, begin and end with what came there.
func TestEachUnitIsInItsBucket(t *testing.T) {
	for _, k := range ks() {
		h := made(t, k)
		for n := range uint64(3000) {
			h = added(t, h, come{10 * n, 1})
		}
		var n uint64
		for i, l := range slices.Backward(h.Levels) {
			for _, b := range l {
				units := uint64(1) << i
				if want := (api.Span{From: 10 * n, To: 10 * (n + units - 1)}); b != want {
					t.Fatalf("of K %d a bucket of the level %d is %v, want %v", k, i, b, want)
				}
				n += units
			}
		}
		if n != 3000 {
			t.Fatalf("of K %d there are %d units", k, n)
		}
	}
}

// unlike are histograms no two of which are the same: they differ in one thing alone from the first one, or from each other.
func unlike() []Hist {
	with := func(k, gen int, levels ...[]api.Span) Hist { return Hist{K: k, Gen: gen, Levels: levels} }
	low, high, top := s(6, 6, 8, 8), s(3, 4, 4, 5), s(1, 2)
	return []Hist{
		with(2, 0, low, high, top),
		with(3, 0, low, high, top),
		with(-2, 0, low, high, top),
		with(2, 1, low, high, top),
		with(2, 4, low, high, top),
		with(3, 1, low, high, top),
		with(2, 0, s(7, 6, 8, 8), high, top),
		with(2, 0, s(6, 7, 8, 8), high, top),
		with(2, 0, s(6, 6, 7, 8), high, top),
		with(2, 0, s(6, 6, 8, 9), high, top),
		with(2, 0, s(8, 8, 6, 6), high, top),
		with(2, 0, low, s(2, 4, 4, 5), top),
		with(2, 0, low, s(3, 3, 4, 5), top),
		with(2, 0, low, s(3, 4, 5, 5), top),
		with(2, 0, low, s(3, 4, 4, 6), top),
		with(2, 0, low, s(4, 5, 3, 4), top),
		with(2, 0, low, high, s(0, 2)),
		with(2, 0, low, high, s(1, 3)),
		with(2, 0, low, high, s(2, 1)),
		with(2, 0, low, high, s(1, 2, 1, 2)),
		with(2, 0, low, high, s(1, 1, 1, 2)),
		with(2, 0, low, high),
		with(2, 0, low),
		with(2, 0),
		with(3, 0),
		with(2, 1),
		with(0, 0),
		with(2, 0, high, top),
		with(2, 0, low, top, high),
		with(2, 0, low, s(3, 4), top),
		with(2, 0, low, s(4, 5), top),
		with(2, 0, s(6, 6), high, top),
		with(2, 0, s(8, 8), high, top),
		with(2, 0, s(6, 6, 8, 8, 8, 8), high, top),
		with(2, 0, s(6, 6, 6, 6, 8, 8), high, top),
		with(2, 0, low, s(3, 4, 4, 5, 1, 2)),
		with(2, 0, low, high, top, top),
		with(2, 0, low, high, nil),
		with(2, 0, low, high, top, nil),
		with(2, 0, nil, low, high, top),
		with(2, 0, s(6, 6, 8, 8, 3, 4, 4, 5, 1, 2)),
		with(2, 0, nil),
	}
}

// P6.3: just with itself each is the same, in whichever turn.
func TestSame(t *testing.T) {
	for i, a := range unlike() {
		for j, b := range unlike() {
			if got := Same(a, b); got != (i == j) {
				t.Errorf("Same(%v, %v) is %v", a, b, got)
			}
		}
		if !Same(a, deep(a)) {
			t.Errorf("%v is not the same as its copy", a)
		}
	}
}

// P6.3: the number of levels of great histograms, each bucket of them.
func TestSameOfGreatOnes(t *testing.T) {
	a := made(t, 9, come{1, 1 << 50}, come{4, 99}, come{6, 1 << 30})
	if !Same(a, made(t, 9, come{1, 1<<50 - 1}, come{1, 1}, come{4, 99}, come{6, 1 << 30})) {
		t.Error("made in another way it is not the same")
	}
	for i, l := range a.Levels {
		for j := range l {
			from, to, fewer := deep(a), deep(a), deep(a)
			from.Levels[i][j].From++
			to.Levels[i][j].To++
			fewer.Levels[i] = slices.Delete(fewer.Levels[i], j, j+1)
			for _, b := range []Hist{from, to, fewer} {
				if Same(a, b) || Same(b, a) {
					t.Fatalf("with another bucket %d on the level %d it is the same", j, i)
				}
			}
		}
	}
	for i := range a.Levels {
		fewer := deep(a)
		fewer.Levels = fewer.Levels[:i]
		if Same(a, fewer) || Same(fewer, a) {
			t.Fatalf("with %d levels it is the same", i)
		}
	}
}

// R2: nil and empty are the same.
func TestNilAndEmpty(t *testing.T) {
	for _, pair := range [][2]Hist{
		{{K: 2}, {K: 2, Levels: [][]api.Span{}}},
		{{K: 2, Levels: [][]api.Span{nil}}, {K: 2, Levels: [][]api.Span{{}}}},
		{{K: 2, Levels: [][]api.Span{s(1, 1), nil, s(0, 0)}}, {K: 2, Levels: [][]api.Span{s(1, 1), {}, s(0, 0)}}},
	} {
		a, b := pair[0], pair[1]
		if !Same(a, b) || !Same(b, a) || Total(a) != Total(b) || lastOf(a) != lastOf(b) {
			t.Errorf("%#v and %#v are not the same", a, b)
		}
		for _, weight := range []uint64{1, 4, 100, 1 << 40} {
			if a, b := added(t, a, come{7, weight}), added(t, b, come{7, weight}); !equal(a, b) {
				t.Errorf("with %d they are %v and %v", weight, a, b)
			}
		}
	}
	if h := made(t, 2); !Same(h, Hist{K: 2, Levels: [][]api.Span{}}) || !Same(Hist{K: 2}, h) {
		t.Errorf("%#v is not the same as those of K 2 without levels", h)
	}
}

// roomy is a histogram with room behind its levels, and behind each one's buckets.
func roomy(h Hist) Hist {
	stray := s(66, 66, 67, 67, 68, 68)
	var all [][]api.Span
	for _, l := range h.Levels {
		all = append(all, slices.Concat(l, stray)[:len(l)])
	}
	h.Levels = append(all, stray, stray, stray)[:len(all)]
	return h
}

// whole are all buckets of a histogram, and of the room behind it: a copy of them.
func whole(h Hist) [][]api.Span {
	var all [][]api.Span
	for _, l := range h.Levels[:cap(h.Levels)] {
		all = append(all, slices.Clone(l[:cap(l)]))
	}
	return all
}

// R3: what is handed in stays as it is, and so does the room behind it.
func TestLeavesWhatIsHandedIn(t *testing.T) {
	eachHist(t, func(h Hist) {
		h = roomy(h)
		before := whole(h)
		for _, weight := range []uint64{0, 1, 2, 3, 5, 100, 1 << 40, api.MaxTotal, math.MaxUint64} {
			for _, tick := range []uint64{0, lastOf(h), api.MaxTick, math.MaxUint64} {
				Add(h, tick, weight)
			}
		}
		Total(h)
		Last(h)
		Same(h, deep(h))
		Same(deep(h), h)
		if after := whole(h); !slices.EqualFunc(before, after, slices.Equal[[]api.Span]) {
			t.Fatalf("it was %v, and is %v", before, after)
		}
	})
}

// R3, R4: what was told before stays as it is, whatever comes to it, and the room behind it too; one that goes on in several ways is as if each were the only one.
func TestLeavesWhatWasTold(t *testing.T) {
	for _, k := range ks() {
		for _, stream := range streams() {
			h := made(t, k)
			var told []Hist
			var before [][][]api.Span
			keep := func(h Hist) {
				told, before = append(told, h), append(before, whole(h))
			}
			for _, c := range stream {
				h = added(t, h, c)
				keep(h)
				for _, weight := range []uint64{1, 2, 50, 1 << 20} {
					for _, tick := range []uint64{c.tick, api.MaxTick} {
						side := added(t, h, come{tick, weight})
						if want := byRuns(h, tick, weight); !equal(side, want) {
							t.Fatalf("of %v and %d of the tick %d it is %v, want %v", h, weight, tick, side, want)
						}
						keep(side)
					}
				}
			}
			for i, h := range told {
				if after := whole(h); !slices.EqualFunc(before[i], after, slices.Equal[[]api.Span]) {
					t.Fatalf("of K %d one was %v, and is %v", k, before[i], after)
				}
			}
		}
	}
}

// P1: of histograms that were never made no call panics either, and each ends.
func TestOfHistsThatWereNotMade(t *testing.T) {
	great := slices.Repeat([][]api.Span{s(9, 3, 5, 5)}, 200)
	for _, k := range []int{math.MinInt, -1, 0, 1, 2, 1024, 1025, 1 << 40, math.MaxInt - 1, math.MaxInt} {
		for _, l := range [][][]api.Span{nil, {nil}, {nil, nil, s(1, 2)}, {s(1, 2), nil}, {alike(5000, 7), alike(5000, 6)}, great} {
			h := Hist{K: k, Gen: -7, Levels: l}
			for _, weight := range []uint64{0, 1, 2, 3, 1 << 40, api.MaxTotal, math.MaxUint64} {
				for _, tick := range []uint64{0, 9, api.MaxTick, math.MaxUint64} {
					if got, e := Add(h, tick, weight); e != api.OK && !isZero(got) {
						t.Errorf("Add(%v, %d, %d) is %v, %d", h, tick, weight, got, e)
					}
				}
			}
			Total(h)
			Last(h)
			if !Same(h, h) || Same(h, Hist{Levels: l}) {
				t.Errorf("%v is not the same as itself alone", h)
			}
		}
	}
}
