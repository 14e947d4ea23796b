package scan

import (
	"math"
	"math/big"
	"slices"
	"testing"

	"skylight/api"
)

// most is the greatest number, of ticks, keys, weights and spans.
const most = math.MaxUint64

// s is events by their ticks, keys and weights.
func s(triples ...uint64) []api.Event {
	var l []api.Event
	for t := range slices.Chunk(triples, 3) {
		l = append(l, api.Event{Tick: t[0], Key: t[1], Weight: t[2]})
	}
	return l
}

// items are those of keys and weights.
func items(pairs ...uint64) []api.Item {
	var l []api.Item
	for pair := range slices.Chunk(pairs, 2) {
		l = append(l, api.Item{Key: pair[0], Count: pair[1]})
	}
	return l
}

// plus is two numbers together, whole.
func plus(a, b uint64) *big.Int {
	return new(big.Int).Add(new(big.Int).SetUint64(a), new(big.Int).SetUint64(b))
}

// isWithin tells whether an event is within, by the chapter's words and whole numbers.
func isWithin(e api.Event, tick, span uint64) bool {
	return e.Tick <= tick && plus(e.Tick, span).Cmp(plus(tick, 0)) > 0
}

// columnOf is a key's column, by whole numbers.
func columnOf(s api.Seed, key uint64, width int) int {
	if width < 1 || s.A < 1 || max(s.A, s.B, key) >= api.Prime {
		return 0
	}
	n := new(big.Int).Mul(plus(s.A, 0), plus(key, 0))
	n.Mod(n.Add(n, plus(s.B, 0)), big.NewInt(api.Prime))
	return int(n.Mod(n, big.NewInt(int64(width))).Int64())
}

// plainSum is the weight of those that a function tells, by whole numbers, and then modulo 2^64.
func plainSum(l []api.Event, asked func(api.Event) bool) uint64 {
	all := new(big.Int)
	for _, e := range l {
		if asked(e) {
			all.Add(all, plus(e.Weight, 0))
		}
	}
	return all.Mod(all, plus(most, 1)).Uint64()
}

// plainKeys is what Keys should tell: the least key first, and each time the least one above it.
func plainKeys(l []api.Event, from, to uint64) []api.Item {
	asked := func(e api.Event) bool { return e.Tick >= from && e.Tick <= to }
	var told []api.Item
	for {
		var next *uint64
		for _, e := range l {
			ahead := len(told) == 0 || e.Key > told[len(told)-1].Key
			if asked(e) && ahead && (next == nil || e.Key < *next) {
				next = &e.Key
			}
		}
		if next == nil {
			return told
		}
		sum := plainSum(l, func(e api.Event) bool { return asked(e) && e.Key == *next })
		told = append(told, api.Item{Key: *next, Count: sum})
	}
}

// expectSum asks Sum, and tells what is wrong.
func expectSum(t *testing.T, what string, l []api.Event, tick, span, want uint64) {
	t.Helper()
	if n := Sum(l, tick, span); n != want {
		t.Errorf("%s: Sum(%v, %d, %d) is %d, want %d", what, l, tick, span, n, want)
	}
}

// expectIn asks In for the columns from 0 on, and tells what is wrong.
func expectIn(t *testing.T, what string, l []api.Event, tick, span uint64, s api.Seed, width int, want ...uint64) {
	t.Helper()
	for column, w := range want {
		if n := In(l, tick, span, s, width, column); n != w {
			t.Errorf("%s: In(%v, %d, %d, %v, %d, %d) is %d, want %d", what, l, tick, span, s, width, column, n, w)
		}
	}
}

// expectKeys asks Keys, and tells what is wrong.
func expectKeys(t *testing.T, what string, l []api.Event, from, to uint64, want []api.Item) {
	t.Helper()
	if told := Keys(l, from, to); !slices.Equal(told, want) {
		t.Errorf("%s: Keys(%v, %d, %d) is %v, want %v", what, l, from, to, told, want)
	}
}

// dice tell numbers that look as if by chance, the same each time.
type dice struct{ state uint64 }

// below is a number below another one.
func (d *dice) below(n uint64) uint64 {
	d.state = d.state*6364136223846793005 + 1442695040888963407
	return d.state >> 33 % n
}

// one is one of some numbers.
func (d *dice) one(l []uint64) uint64 { return l[d.below(uint64(len(l)))] }

// edges are numbers at which something may turn, and ordinary ones.
func edges() []uint64 {
	return []uint64{0, 1, 2, 3, 7, 100, 1 << 32, 1<<61 - 2, 1<<61 - 1, 1 << 61, 1 << 62, 1<<63 - 1, 1 << 63, 1<<63 + 1, most - 1, most}
}

// few are some events of few ticks and few keys, so that many are of one.
func (d *dice) few(many uint64) []api.Event {
	var l []api.Event
	for range many {
		l = append(l, s(10+d.below(12), d.below(9), d.below(50))...)
	}
	return l
}

// far are some events of all edges.
func (d *dice) far(many uint64) []api.Event {
	var l []api.Event
	for range many {
		l = append(l, s(d.one(edges()), d.one(edges()), d.one(edges()))...)
	}
	return l
}

// lists are lists of events: of none to many, of few ticks and of all edges.
func lists() [][]api.Event {
	l := [][]api.Event{nil, {}, {{}}}
	d := &dice{1}
	for _, many := range []uint64{1, 2, 3, 5, 20, 60} {
		l = append(l, d.few(many), d.far(many), slices.Concat(d.few(many), d.far(many), d.few(many)))
	}
	return l
}

// seeds are such as may be, and such as may not.
func seeds() []api.Seed {
	return []api.Seed{
		{A: 1}, {A: 3, B: 4}, {A: api.Prime - 1, B: api.Prime - 1}, {A: 1<<60 + 12345, B: 1<<59 + 777},
		{}, {B: 4}, {A: api.Prime}, {A: 3, B: api.Prime}, {A: most, B: most},
	}
}

// The example of the chapter.
func TestExample(t *testing.T) {
	expectSum(t, "that of 5 alone", s(3, 1, 10, 5, 1, 200), 5, 2, 200)
	expectIn(t, "that of 5 alone", s(3, 1, 10, 5, 1, 200), 5, 2, api.Seed{A: 1}, 2, 0, 200)
}

// P13.1: of none, of one, of several.
func TestSum(t *testing.T) {
	for _, c := range []struct {
		what       string
		l          []api.Event
		tick, span uint64
		want       uint64
	}{
		{"nil", nil, 5, 5, 0},
		{"none", []api.Event{}, 5, 5, 0},
		{"one", s(3, 7, 9), 5, 5, 9},
		{"one of no weight", s(3, 7, 0), 5, 5, 0},
		{"the zero one", s(0, 0, 0), 0, 1, 0},
		{"one of all zeros but its weight", s(0, 0, 8), 0, 1, 8},
		{"several of one key", s(3, 7, 1, 4, 7, 20, 5, 7, 300), 5, 5, 321},
		{"several of one tick", s(3, 7, 1, 3, 8, 20, 3, 9, 300), 5, 5, 321},
		{"several that are alike", s(3, 7, 4, 3, 7, 4, 3, 7, 4), 5, 5, 12},
		{"several of which some are within", s(1, 7, 1, 3, 8, 20, 5, 9, 300, 6, 7, 4000), 5, 3, 320},
		{"several of which none is within", s(1, 7, 1, 2, 8, 20, 6, 9, 300), 5, 3, 0},
		{"keys that may not be", s(3, api.Prime, 1, 4, most, 20), 5, 5, 21},
		{"out of turn", s(9, 1, 1, 2, 1, 20, 8, 1, 300, 1, 1, 4000), 8, 7, 320},
	} {
		expectSum(t, c.what, c.l, c.tick, c.span, c.want)
	}
}

// P13.1: a Tick at tick, 1 above it and 1 below it; with span the same as tick, 1 more and 1 less.
func TestSumOfEdges(t *testing.T) {
	for _, tick := range []uint64{10, 11, 1 << 32, 1<<63 - 1, 1 << 63, 1<<63 + 7, most - 1} {
		expectSum(t, "at tick", s(tick, 1, 5), tick, 3, 5)
		expectSum(t, "1 above tick", s(tick+1, 1, 5), tick, 3, 0)
		expectSum(t, "1 below tick", s(tick-1, 1, 5), tick, 3, 5)
		expectSum(t, "at tick, of one", s(tick, 1, 5), tick, 1, 5)
		expectSum(t, "1 above tick, of one", s(tick+1, 1, 5), tick, 1, 0)
		expectSum(t, "1 below tick, of one", s(tick-1, 1, 5), tick, 1, 0)
		for _, span := range []uint64{2, 3, 9, tick / 2, tick - 1} {
			expectSum(t, "the same as tick", s(tick-span, 1, 5), tick, span, 0)
			expectSum(t, "1 more", s(tick-span+1, 1, 5), tick, span, 5)
			expectSum(t, "1 less", s(tick-span-1, 1, 5), tick, span, 0)
			expectSum(t, "all three", s(tick-span+1, 1, 5, tick-span, 2, 60, tick-span-1, 3, 700), tick, span, 5)
		}
	}
}

// P13.1: a span of 0, and of 2^64 less 1; a tick of 0, and of 2^64 less 1.
func TestSumOfGreatAndSmall(t *testing.T) {
	l := s(0, 1, 1, 1, 2, 20, 5, 3, 300, 1<<63, 4, 4000, most-1, 5, 50000, most, 6, 600000)
	for _, tick := range edges() {
		expectSum(t, "no span", l, tick, 0, 0)
	}
	for _, c := range [][3]uint64{
		{0, 1, 1}, {0, 2, 1}, {0, most, 1},
		{1, 1, 20}, {1, 2, 21}, {1, most, 21},
		{5, 4, 300}, {5, 5, 320}, {5, 6, 321},
		{1 << 63, 1, 4000}, {1 << 63, 1<<63 - 5, 4000}, {1 << 63, 1<<63 - 4, 4300}, {1 << 63, 1 << 63, 4320}, {1 << 63, 1<<63 + 1, 4321}, {1 << 63, most, 4321},
		{most - 1, 1, 50000}, {most - 1, most - 2, 54300}, {most - 1, most - 1, 54320}, {most - 1, most, 54321},
		{most, 1, 600000}, {most, 2, 650000}, {most, most - 1, 654300}, {most, most, 654320},
	} {
		expectSum(t, "great and small", l, c[0], c[1], c[2])
	}
}

// P13.1: where Tick and span together are more than 64 bits bear.
func TestSumIsWhole(t *testing.T) {
	expectSum(t, "by 2^64 and 1", s(2, 1, 7), 2, most, 7)
	expectSum(t, "by 2^64", s(1, 1, 7), 1, most, 7)
	expectSum(t, "by 2^64, great both", s(1<<63, 1, 7), 1<<63, 1<<63, 7)
	expectSum(t, "above tick all the same", s(1<<63+1, 1, 7), 1<<63, most, 0)
	expectSum(t, "the greatest ones", s(most, 1, 7), most, most, 7)
	expectSum(t, "the greatest one and 1", s(most, 1, 7), most, 1, 7)
	expectSum(t, "the greatest one below", s(most, 1, 7), most-1, most, 0)
}

// P13.1: where the sum of the Weights wraps, of one key and of several.
func TestSumWraps(t *testing.T) {
	expectSum(t, "to 0", s(3, 1, most, 4, 2, 1), 5, 5, 0)
	expectSum(t, "to 0, of one key", s(3, 1, 1<<63, 4, 1, 1<<63), 5, 5, 0)
	expectSum(t, "to 8", s(3, 1, most, 4, 2, 9), 5, 5, 8)
	expectSum(t, "to 8, of one key", s(3, 1, most, 4, 1, 9), 5, 5, 8)
	expectSum(t, "thrice", s(3, 1, most, 4, 2, most, 5, 1, most, 5, 3, most), 5, 5, most-3)
	expectSum(t, "just not", s(3, 1, most-1, 4, 2, 1), 5, 5, most)
}

// P13.1: held against whole numbers, at all edges.
func TestSumOfMany(t *testing.T) {
	for _, l := range lists() {
		for _, tick := range append(edges(), 10, 12, 15, 21, 22) {
			for _, span := range append(edges(), 4, 5, 10, 15) {
				want := plainSum(l, func(e api.Event) bool { return isWithin(e, tick, span) })
				expectSum(t, "many", l, tick, span, want)
			}
		}
	}
}

// P13.1: each column of several widths; several keys in one column, a column that none falls into, a width of 1.
func TestIn(t *testing.T) {
	l := s(3, 7, 1, 5, 7, 20, 5, 1, 300, 4, 13, 4000, 6, 2, 50000, 7, 1, 600000)
	plain := api.Seed{A: 1}
	expectIn(t, "a width of 1", l, 6, 9, plain, 1, 54321, 0, 0)
	expectIn(t, "a width of 2", l, 6, 9, plain, 2, 50000, 4321, 0)
	expectIn(t, "a width of 3", l, 6, 9, plain, 3, 0, 4321, 50000, 0)
	expectIn(t, "a width of 6", l, 6, 9, plain, 6, 0, 4321, 50000, 0, 0, 0, 0)
	expectIn(t, "a width of 8", l, 6, 9, plain, 8, 0, 300, 50000, 0, 0, 4000, 0, 21, 0)
	// 3 times the key, and 4: 25, 7, 43 and 10.
	expectIn(t, "another seed", l, 6, 9, api.Seed{A: 3, B: 4}, 10, 50000, 0, 0, 4000, 0, 21, 0, 300, 0, 0, 0)
	expectIn(t, "another seed, of 9 columns", l, 6, 9, api.Seed{A: 3, B: 4}, 9, 0, 50000, 0, 0, 0, 0, 0, 4321, 0)
	expectIn(t, "of none", nil, 6, 9, plain, 3, 0, 0, 0)
	expectIn(t, "of one", s(6, 5, 9), 6, 9, plain, 3, 0, 0, 9)
	expectIn(t, "of one column in all", s(6, 5, 9, 6, 2, 1), 6, 9, plain, 3, 0, 0, 10)
}

// P13.1: a window that takes some, of one column and of others.
func TestInOfWindow(t *testing.T) {
	l := s(2, 1, 1, 3, 1, 20, 4, 4, 300, 5, 2, 4000, 6, 1, 50000)
	plain := api.Seed{A: 1}
	expectIn(t, "no span", l, 5, 0, plain, 3, 0, 0, 0)
	expectIn(t, "one tick", l, 5, 1, plain, 3, 0, 0, 4000)
	expectIn(t, "two ticks", l, 5, 2, plain, 3, 0, 300, 4000)
	expectIn(t, "three ticks", l, 5, 3, plain, 3, 0, 320, 4000)
	expectIn(t, "four ticks", l, 5, 4, plain, 3, 0, 321, 4000)
	expectIn(t, "more ticks than there are", l, 5, most, plain, 3, 0, 321, 4000)
	expectIn(t, "all ticks", l, most, most, plain, 3, 0, 50321, 4000)
	expectIn(t, "the last one", l, 6, 1, plain, 3, 0, 50000, 0)
	expectIn(t, "ahead of all", l, 1, most, plain, 3, 0, 0, 0)
	expectIn(t, "where Tick and span are too much for 64 bits", s(most, 4, 5, most-1, 1, 60), most, most, plain, 3, 0, 65, 0)
}

// P13.1: where the sum of a column wraps.
func TestInWraps(t *testing.T) {
	l := s(3, 1, most, 4, 4, 9, 5, 1, 1<<63, 5, 7, 1<<63, 5, 2, most, 5, 3, most, 5, 0, 1)
	expectIn(t, "wraps", l, 5, 5, api.Seed{A: 1}, 3, 0, 8, most)
}

// P13.1: what hash.Column tells of a seed, a key or a width that may not be: the column 0.
func TestInOfWrong(t *testing.T) {
	l := s(3, 7, 1, 5, api.Prime, 20, 5, most, 300, 5, api.Prime-1, 4000)
	plain := api.Seed{A: 1}
	expectIn(t, "keys that may not be", l, 5, 5, plain, 10, 4320, 0, 0, 0, 0, 0, 0, 1)
	for _, seed := range seeds()[4:] {
		expectIn(t, "a seed that may not be", l, 5, 5, seed, 10, 4321, 0, 0, 0, 0, 0, 0, 0, 0, 0)
	}
	for _, width := range []int{0, -1, -10, math.MinInt} {
		expectIn(t, "a width that may not be", l, 5, 5, plain, width, 4321, 0, 0, 0)
		for _, column := range []int{-1, -10, width - 1, math.MinInt, math.MaxInt} {
			if n := In(l, 5, 5, plain, width, column); n != 0 {
				t.Errorf("of the width %d the column %d is %d", width, column, n)
			}
		}
	}
	for _, column := range []int{-1, -7, math.MinInt, 10, 11, 17, math.MaxInt} {
		if n := In(l, 5, 5, plain, 10, column); n != 0 {
			t.Errorf("of 10 columns the column %d is %d", column, n)
		}
	}
}

// P13.1: widths beyond a grid's, up to the greatest int.
func TestInOfGreatWidth(t *testing.T) {
	l := s(3, 7, 1, 5, api.Prime-1, 20, 5, api.Prime-2, 300, 5, 7, 4000)
	for _, width := range []int{api.Prime, api.Prime + 1, math.MaxInt} {
		for column, want := range map[int]uint64{7: 4001, api.Prime - 1: 20, api.Prime - 2: 300, 0: 0, 8: 0, math.MaxInt: 0} {
			if n := In(l, 5, 5, api.Seed{A: 1}, width, column); n != want {
				t.Errorf("of %d columns %d is %d, want %d", width, column, n, want)
			}
		}
	}
}

// P13.1: held against whole numbers, of many events, seeds and widths.
func TestInOfMany(t *testing.T) {
	for _, l := range lists() {
		for _, seed := range seeds() {
			for _, width := range []int{1, 2, 3, 7, 256} {
				for _, window := range [][2]uint64{{15, 3}, {21, 99}, {most, 1 << 63}, {1 << 63, most}} {
					for column := range min(width, 8) + 1 {
						want := plainSum(l, func(e api.Event) bool {
							return isWithin(e, window[0], window[1]) && columnOf(seed, e.Key, width) == column
						})
						if n := In(l, window[0], window[1], seed, width, column); n != want {
							t.Errorf("In(%v, %v, %v, %d, %d) is %d, want %d", l, window, seed, width, column, n, want)
						}
					}
				}
			}
		}
	}
}

// P13.2: of none, of one key with several events, of several keys out of turn.
func TestKeys(t *testing.T) {
	for _, c := range []struct {
		what     string
		l        []api.Event
		from, to uint64
		want     []api.Item
	}{
		{"nil", nil, 0, most, nil},
		{"none", []api.Event{}, 0, most, nil},
		{"none of these ticks", s(3, 7, 1, 9, 8, 2), 4, 8, nil},
		{"one", s(3, 7, 9), 3, 3, items(7, 9)},
		{"one key with several events", s(3, 7, 1, 4, 7, 20, 3, 7, 300), 3, 5, items(7, 321)},
		{"one key with events that are alike", s(3, 7, 4, 3, 7, 4, 3, 7, 4), 3, 5, items(7, 12)},
		{"several keys out of turn", s(3, 7, 1, 3, 2, 20, 4, 9, 300, 4, 1, 4000), 3, 5, items(1, 4000, 2, 20, 7, 1, 9, 300)},
		{"falling keys, rising ticks", s(3, 9, 1, 4, 7, 20, 5, 2, 300), 3, 5, items(2, 300, 7, 20, 9, 1)},
		{"several keys with several events", s(3, 7, 1, 3, 2, 20, 4, 7, 300, 4, 2, 4000, 5, 7, 50000), 3, 5, items(2, 4020, 7, 50301)},
		{"a weight of 0", s(3, 7, 0), 3, 5, items(7, 0)},
		{"a weight of 0 beside others", s(3, 7, 0, 4, 2, 0, 4, 7, 5, 4, 1, 6), 3, 5, items(1, 6, 2, 0, 7, 5)},
		{"the zero event", s(0, 0, 0), 0, 0, items(0, 0)},
		{"the least and the greatest key", s(3, most, 1, 4, 0, 20, 4, most-1, 300, 4, 1, 4000), 3, 5, items(0, 20, 1, 4000, most-1, 300, most, 1)},
		{"keys about 2^63", s(3, 1<<63, 1, 3, 1<<63-1, 20, 3, 5, 300, 3, 1<<63+1, 4000), 3, 3, items(5, 300, 1<<63-1, 20, 1<<63, 1, 1<<63+1, 4000)},
		{"keys that may not be", s(3, api.Prime, 1, 3, api.Prime-1, 20), 3, 3, items(api.Prime-1, 20, api.Prime, 1)},
	} {
		expectKeys(t, c.what, c.l, c.from, c.to, c.want)
	}
}

// P13.2: events at from and at to, 1 below from and 1 above to; from above to.
func TestKeysOfTicks(t *testing.T) {
	l := s(2, 1, 1, 3, 2, 20, 4, 3, 300, 5, 4, 4000, 6, 5, 50000)
	expectKeys(t, "some", l, 3, 5, items(2, 20, 3, 300, 4, 4000))
	expectKeys(t, "one tick", l, 3, 3, items(2, 20))
	expectKeys(t, "all", l, 2, 6, items(1, 1, 2, 20, 3, 300, 4, 4000, 5, 50000))
	expectKeys(t, "all ticks", l, 0, most, items(1, 1, 2, 20, 3, 300, 4, 4000, 5, 50000))
	expectKeys(t, "from above to", l, 5, 3, nil)
	expectKeys(t, "from 1 above to", l, 4, 3, nil)
	expectKeys(t, "from the greatest one", l, most, 0, nil)
	one := s(2, 7, 1, 3, 7, 20, 4, 7, 300, 5, 7, 4000, 6, 7, 50000)
	expectKeys(t, "one key", one, 3, 5, items(7, 4320))
	expectKeys(t, "one key, of one tick", one, 6, 6, items(7, 50000))
	ends := s(0, 1, 1, 1, 2, 20, most-1, 3, 300, most, 4, 4000)
	expectKeys(t, "at 0", ends, 0, 0, items(1, 1))
	expectKeys(t, "from 1", ends, 1, most-1, items(2, 20, 3, 300))
	expectKeys(t, "at the end", ends, most, most, items(4, 4000))
	expectKeys(t, "all from end to end", ends, 0, most, items(1, 1, 2, 20, 3, 300, 4, 4000))
	expectKeys(t, "from end to start", ends, most, 0, nil)
}

// P13.2: where a key's sum wraps; it stands there, also if that is 0.
func TestKeysWrap(t *testing.T) {
	l := s(3, 1, most, 3, 2, 1<<63, 4, 1, 9, 5, 2, 1<<63, 5, 3, most, 5, 0, most-4, 3, 0, 4)
	expectKeys(t, "wraps", l, 3, 5, items(0, most, 1, 8, 2, 0, 3, most))
	expectKeys(t, "wraps not", l, 4, 5, items(0, most-4, 1, 9, 2, 1<<63, 3, most))
}

// P13.2: held against a plain telling; the keys rise, and each stands once.
func TestKeysOfMany(t *testing.T) {
	for _, l := range lists() {
		for _, from := range append(edges(), 10, 13, 16, 21, 22) {
			for _, to := range append(edges(), 10, 12, 16, 20, 21) {
				expectKeys(t, "many", l, from, to, plainKeys(l, from, to))
			}
		}
	}
}

// P13.2: very many events, of very many keys.
func TestKeysOfVeryMany(t *testing.T) {
	const keys = 5000
	d := &dice{7}
	var l []api.Event
	var want [keys]uint64
	for range 40000 {
		key, tick, weight := d.below(keys), d.below(100), d.below(1000)
		l = append(l, s(tick, key, weight)...)
		if tick >= 20 && tick <= 79 {
			want[key] += weight
		}
	}
	told := Keys(l, 20, 79)
	for i, item := range told {
		if i > 0 && item.Key <= told[i-1].Key {
			t.Fatalf("%d stands behind %d", item.Key, told[i-1].Key)
		}
		if item.Count != want[item.Key] {
			t.Errorf("of %d there is %d, want %d", item.Key, item.Count, want[item.Key])
		}
		want[item.Key] = 0
	}
	if want != [keys]uint64{} {
		t.Errorf("keys are missing")
	}
}

// P13.3: what is in all columns, together, is all, also where it wraps.
func TestColumnsAreAll(t *testing.T) {
	for _, l := range lists() {
		for _, seed := range seeds() {
			for _, width := range []int{-1, 0, 1, 2, 5, 16, 256} {
				for _, window := range [][2]uint64{{15, 4}, {most, most}, {1 << 63, 1 << 62}} {
					var all uint64
					for column := range max(width, 1) {
						all += In(l, window[0], window[1], seed, width, column)
					}
					if want := Sum(l, window[0], window[1]); all != want {
						t.Errorf("%v, %v, %v: all %d columns are %d, Sum is %d", l, window, seed, width, all, want)
					}
				}
			}
		}
	}
}

// P13.3: where what is in all columns wraps, though no column does.
func TestColumnsWrap(t *testing.T) {
	l := s(3, 0, 1<<63, 4, 1, 1<<63, 5, 2, 5)
	expectIn(t, "wraps", l, 5, 3, api.Seed{A: 1}, 3, 1<<63, 1<<63, 5)
	expectSum(t, "wraps", l, 5, 3, 5)
}

// P13.3: all keys, together, are all, also where it wraps.
func TestKeysAreAll(t *testing.T) {
	for _, l := range lists() {
		for _, from := range edges() {
			for _, to := range append(edges(), 12, 15) {
				var all uint64
				for _, item := range Keys(l, from, to) {
					all += item.Count
				}
				want := plainSum(l, func(e api.Event) bool { return from <= e.Tick && e.Tick <= to })
				if all != want {
					t.Errorf("%v, from %d to %d: all keys are %d, want %d", l, from, to, all, want)
				}
				// From 0 on no span is so long, where to is the greatest tick.
				if from <= to && to-from < most {
					expectSum(t, "all keys", l, to, to-from+1, all)
				}
			}
		}
	}
	wraps := s(3, 0, 1<<63, 4, 1, 1<<63, 5, 2, 5)
	expectKeys(t, "wraps", wraps, 3, 5, items(0, 1<<63, 1, 1<<63, 2, 5))
}

// R4: the turn in which the events stand changes nothing.
func TestTurn(t *testing.T) {
	d := &dice{3}
	for _, l := range lists() {
		turned := slices.Clone(l)
		for range 6 {
			slices.Reverse(turned)
			for i := range turned {
				j := int(d.below(uint64(i + 1)))
				turned[i], turned[j] = turned[j], turned[i]
			}
			for _, window := range [][2]uint64{{15, 4}, {21, 9}, {most, most}, {1 << 63, 1 << 62}} {
				tick, span := window[0], window[1]
				expectSum(t, "another turn", turned, tick, span, Sum(l, tick, span))
				var want []uint64
				for column := range 4 {
					want = append(want, In(l, tick, span, api.Seed{A: 3, B: 4}, 4, column))
				}
				expectIn(t, "another turn", turned, tick, span, api.Seed{A: 3, B: 4}, 4, want...)
				expectKeys(t, "another turn", turned, span, tick, Keys(l, span, tick))
			}
			expectKeys(t, "another turn", turned, 12, 19, Keys(l, 12, 19))
		}
	}
}

// P13.1, P13.2: two lists, one behind the other, tell together what both tell.
func TestTwoLists(t *testing.T) {
	for _, a := range lists() {
		for _, b := range lists() {
			both := slices.Concat(a, b)
			for _, window := range [][2]uint64{{15, 4}, {most, most}, {1 << 63, 1 << 62}} {
				tick, span := window[0], window[1]
				expectSum(t, "two lists", both, tick, span, Sum(a, tick, span)+Sum(b, tick, span))
				seed := api.Seed{A: 3, B: 4}
				var want []uint64
				for column := range 3 {
					want = append(want, In(a, tick, span, seed, 3, column)+In(b, tick, span, seed, 3, column))
				}
				expectIn(t, "two lists", both, tick, span, seed, 3, want...)
			}
			expectKeys(t, "two lists", both, 12, 1<<62, together(Keys(a, 12, 1<<62), Keys(b, 12, 1<<62)))
		}
	}
}

// together are the items of two lists as one, by rising keys.
func together(a, b []api.Item) []api.Item {
	var l []api.Item
	for len(a) > 0 || len(b) > 0 {
		switch {
		case len(b) == 0 || len(a) > 0 && a[0].Key < b[0].Key:
			l, a = append(l, a[0]), a[1:]
		case len(a) == 0 || b[0].Key < a[0].Key:
			l, b = append(l, b[0]), b[1:]
		default:
			l = append(l, api.Item{Key: a[0].Key, Count: a[0].Count + b[0].Count})
			a, b = a[1:], b[1:]
		}
	}
	return l
}

// R3: no call writes into what was handed in, nor behind it.
func TestNothingIsWritten(t *testing.T) {
	for _, l := range lists() {
		full := slices.Concat(l, s(11, 1, 1, 22, 2, 2, 33, 3, 3))
		then := slices.Clone(full)
		in := full[:len(l)]
		Sum(in, most, most)
		Sum(in, 15, 3)
		In(in, most, most, api.Seed{A: 3, B: 4}, 5, 2)
		In(in, 15, 3, api.Seed{}, 0, 0)
		Keys(in, 0, most)
		Keys(in, 12, 15)
		if !slices.Equal(full, then) {
			t.Errorf("%v was written over, and is %v", then, full)
		}
	}
}

// R3, R4: what Keys told stays as it is, whatever is asked behind it, and is told again, also if the first one was written into.
func TestTwice(t *testing.T) {
	for _, l := range lists() {
		first := Keys(l, 0, most)
		then := slices.Clone(first)
		sum, in := Sum(l, most, most), In(l, most, most, api.Seed{A: 1}, 3, 1)
		Keys(s(1, 1, 1, 2, 2, 2), 0, most)
		second := Keys(l, 0, most)
		if !slices.Equal(first, then) || !slices.Equal(second, then) {
			t.Errorf("%v: there was %v, it is %v, and again %v", l, then, first, second)
		}
		for i := range first {
			first[i] = api.Item{Key: 77, Count: 99}
		}
		if third := Keys(l, 0, most); !slices.Equal(second, then) || !slices.Equal(third, then) {
			t.Errorf("%v: there was %v, it is %v, and again %v", l, then, second, third)
		}
		if Sum(l, most, most) != sum || In(l, most, most, api.Seed{A: 1}, 3, 1) != in {
			t.Errorf("%v: Sum or In is another one", l)
		}
	}
}

// P1: no call panics, and all end, at whatever they are given.
func TestAnything(t *testing.T) {
	ints := []int{math.MinInt, -1, 0, 1, 2, 256, api.Prime, math.MaxInt}
	for _, l := range lists() {
		for _, a := range edges() {
			for _, b := range edges() {
				Sum(l, a, b)
				Keys(l, a, b)
			}
		}
		for _, seed := range seeds() {
			for _, width := range ints {
				for _, column := range ints {
					want := plainSum(l, func(e api.Event) bool { return isWithin(e, most, most) && columnOf(seed, e.Key, width) == column })
					if n := In(l, most, most, seed, width, column); n != want {
						t.Errorf("In(%v, .., %v, %d, %d) is %d, want %d", l, seed, width, column, n, want)
					}
				}
			}
		}
	}
}
