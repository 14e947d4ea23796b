package replay

import (
	"cmp"
	"iter"
	"math"
	"math/big"
	"math/bits"
	"slices"
	"testing"

	"skylight/api"
	"skylight/check"
	"skylight/estimate"
	"skylight/expiry"
	"skylight/hist"
)

// come is weight of a tick.
type come struct{ tick, weight uint64 }

// s is buckets by their From and To.
func s(ticks ...uint64) []api.Span {
	var l []api.Span
	for pair := range slices.Chunk(ticks, 2) {
		l = append(l, api.Span{From: pair[0], To: pair[1]})
	}
	return l
}

// of is a histogram of these levels.
func of(k, gen int, levels ...[]api.Span) hist.Hist {
	return hist.Hist{K: k, Gen: gen, Levels: levels}
}

// made is a histogram to which some came.
func made(t *testing.T, k int, all ...come) hist.Hist {
	t.Helper()
	h, e := hist.New(k)
	if e != api.OK {
		t.Fatalf("hist.New(%d) tells %d", k, e)
	}
	return added(t, h, all...)
}

// added is a histogram to which some more came.
func added(t *testing.T, h hist.Hist, all ...come) hist.Hist {
	t.Helper()
	for _, c := range all {
		next, e := hist.Add(h, c.tick, c.weight)
		if e != api.OK {
			t.Fatalf("hist.Add(.., %d, %d) tells %d", c.tick, c.weight, e)
		}
		h = next
	}
	return h
}

// with is With, of what may be merged.
func with(t *testing.T, events []api.Event, l ...hist.Hist) hist.Hist {
	t.Helper()
	h, e := With(events, l...)
	if e != api.OK {
		t.Fatalf("With tells %d", e)
	}
	return h
}

// aged is a histogram that was merged so often, alone.
func aged(t *testing.T, gen int, h hist.Hist) hist.Hist {
	t.Helper()
	for range gen {
		h = with(t, nil, h)
	}
	return h
}

// units are a unit at each of the ticks 1 to many.
func units(many uint64) []come {
	var all []come
	for i := range many {
		all = append(all, come{i + 1, 1})
	}
	return all
}

// event is one of a tick and a weight; its key is never asked.
func event(tick, weight uint64) api.Event {
	return api.Event{Tick: tick, Key: tick*31 + weight, Weight: weight}
}

// ks are numbers of k: the least and the greatest one, odd and even ones.
func ks() []int { return []int{api.MinK, 3, 4, 5, 8, 9, 31, 1023, api.MaxK} }

// empty tells whether a histogram is the zero one.
func empty(h hist.Hist) bool { return h.K == 0 && h.Gen == 0 && len(h.Levels) == 0 }

// expect asks With, and Merge where there are no events, and tells what is wrong.
func expect(t *testing.T, what string, events []api.Event, l []hist.Hist, want hist.Hist) {
	t.Helper()
	if h, e := With(events, l...); e != api.OK || !hist.Same(h, want) {
		t.Errorf("%s: With tells %d, %v, want %v", what, e, h, want)
	}
	if len(events) > 0 {
		return
	}
	if h, e := Merge(l...); e != api.OK || !hist.Same(h, want) {
		t.Errorf("%s: Merge tells %d, %v, want %v", what, e, h, want)
	}
}

// expectError asks With, and Merge where there are no events, for an error, with nothing beside it.
func expectError(t *testing.T, what string, events []api.Event, l []hist.Hist, want api.Errno) {
	t.Helper()
	if h, e := With(events, l...); e != want || !empty(h) {
		t.Errorf("%s: With tells %d, %v, want %d", what, e, h, want)
	}
	if len(events) > 0 {
		return
	}
	if h, e := Merge(l...); e != want || !empty(h) {
		t.Errorf("%s: Merge tells %d, %v, want %d", what, e, h, want)
	}
}

// inTurn are all buckets' units, by their To, and all events' weights, each for itself, the oldest first.
func inTurn(events []api.Event, l []hist.Hist) []come {
	var all []come
	for _, h := range l {
		size := uint64(1)
		for _, level := range h.Levels {
			for _, b := range level {
				all = append(all, come{b.To, size})
			}
			size *= 2
		}
	}
	for _, e := range events {
		all = append(all, come{e.Tick, e.Weight})
	}
	slices.SortStableFunc(all, func(a, b come) int { return cmp.Compare(a.tick, b.tick) })
	return all
}

// plain is what With should tell, where nothing is wrong: each bucket and event comes for itself.
func plain(t *testing.T, events []api.Event, l ...hist.Hist) hist.Hist {
	t.Helper()
	h := made(t, l[0].K, inTurn(events, l)...)
	for _, other := range l {
		h.Gen = max(h.Gen, other.Gen+1)
	}
	return h
}

// oneByOne is what With should tell, unit by unit.
func oneByOne(t *testing.T, events []api.Event, l ...hist.Hist) hist.Hist {
	t.Helper()
	var all []come
	for _, c := range inTurn(events, l) {
		all = append(all, slices.Repeat([]come{{c.tick, 1}}, int(c.weight))...)
	}
	h := made(t, l[0].K, all...)
	for _, other := range l {
		h.Gen = max(h.Gen, other.Gen+1)
	}
	return h
}

// turns tells a list in all its turns; each is written over by the next one.
func turns[E any](l []E) iter.Seq[[]E] {
	return func(yield func([]E) bool) {
		now := slices.Clone(l)
		var from func(i int) bool
		from = func(i int) bool {
			if i >= len(now) {
				return yield(now)
			}
			for j := i; j < len(now); j++ {
				now[i], now[j] = now[j], now[i]
				on := from(i + 1)
				now[i], now[j] = now[j], now[i]
				if !on {
					return false
				}
			}
			return true
		}
		from(0)
	}
}

// dice tell numbers that look as if by chance, the same each time.
type dice struct{ state uint64 }

// below is a number below another one.
func (d *dice) below(n uint64) uint64 {
	d.state = d.state*6364136223846793005 + 1442695040888963407
	return d.state >> 33 % n
}

// stream is weights one behind the other, by rising ticks; now and then several of one tick, and now and then great ones.
func (d *dice) stream(many int) []come {
	var all []come
	tick := d.below(10)
	for range many {
		all = append(all, come{tick, 1 + d.below(1<<d.below(7))})
		tick += d.below(4)
	}
	return all
}

// events are some whose ticks are out of turn.
func (d *dice) events(many int, below uint64) []api.Event {
	var all []api.Event
	for range many {
		all = append(all, event(d.below(below), 1+d.below(1<<d.below(7))))
	}
	return all
}

// each calls with lists of histograms of one K, of several Gens, and events.
func each(t *testing.T, do func(events []api.Event, l []hist.Hist)) {
	t.Helper()
	for _, k := range ks() {
		d := &dice{uint64(k)}
		for _, many := range []int{1, 2, 3, 6} {
			for size := range 4 {
				var l []hist.Hist
				for i := range many {
					h := made(t, k, d.stream(size*size*10+i*size)...)
					l = append(l, aged(t, int(d.below(4)), h))
				}
				do(nil, l)
				do(d.events(1, 100), l)
				do(d.events(size*7, 150), l)
			}
		}
	}
}

// The example of the chapter, in both turns.
func TestExample(t *testing.T) {
	one, two := made(t, 2, come{1, 1}), made(t, 2, come{2, 1})
	want := of(2, 1, s(1, 1, 2, 2))
	expect(t, "1 and 2", nil, []hist.Hist{one, two}, want)
	expect(t, "2 and 1", nil, []hist.Hist{two, one}, want)
	if h := with(t, nil, one, two); hist.Total(h) != 2 || h.Gen != 1 {
		t.Errorf("it is %v", h)
	}
}

// P10.1, worked out by hand.
func TestMergeAndWith(t *testing.T) {
	// Level 0: 3, 4. Level 1: 1 to 2.
	four := made(t, 2, units(4)...)
	// Level 0: 9, 10, 11. Level 1: 5 to 6, 7 to 8. Level 2: 1 to 4.
	eleven := made(t, 2, units(11)...)
	none := made(t, 2)
	for _, c := range []struct {
		what   string
		events []api.Event
		l      []hist.Hist
		want   hist.Hist
	}{
		{"one, empty", nil, []hist.Hist{none}, of(2, 1)},
		{"one unit", nil, []hist.Hist{made(t, 2, come{7, 1})}, of(2, 1, s(7, 7))},
		{"a bucket of two comes with its To", nil, []hist.Hist{four}, of(2, 1, s(3, 3, 4, 4), s(2, 2))},
		{"buckets of several levels, the oldest first", nil, []hist.Hist{eleven}, of(2, 1, s(9, 9, 10, 10, 11, 11), s(6, 6, 8, 8), s(4, 4))},
		{"an empty one first", nil, []hist.Hist{none, four}, of(2, 1, s(3, 3, 4, 4), s(2, 2))},
		{"an empty one last", nil, []hist.Hist{four, none}, of(2, 1, s(3, 3, 4, 4), s(2, 2))},
		{"empty ones around", nil, []hist.Hist{none, none, four, none}, of(2, 1, s(3, 3, 4, 4), s(2, 2))},
		{"only empty ones", nil, []hist.Hist{none, none, none}, of(2, 1)},
		{"two, one To in both, on several levels", nil, []hist.Hist{four, made(t, 2, come{2, 1}, come{6, 1})}, of(2, 1, s(4, 4, 6, 6), s(2, 2, 2, 3))},
		{"one twice", nil, []hist.Hist{four, four}, of(2, 1, s(4, 4, 4, 4), s(3, 3), s(2, 2))},
		{"three, one between the others", nil, []hist.Hist{made(t, 3, come{1, 1}), made(t, 3, come{9, 1}), made(t, 3, come{5, 1})}, of(3, 1, s(1, 1, 5, 5, 9, 9))},
		{"an event alone", []api.Event{event(5, 4)}, []hist.Hist{none}, of(2, 1, s(5, 5, 5, 5), s(5, 5))},
		{"events alone, out of turn", []api.Event{event(9, 1), event(0, 1), event(5, 1), event(5, 1)}, []hist.Hist{none}, of(2, 1, s(5, 5, 9, 9), s(0, 5))},
		{"an event below all", []api.Event{event(0, 1)}, []hist.Hist{four}, of(2, 1, s(2, 2, 3, 3, 4, 4), s(0, 2))},
		{"an event above all", []api.Event{event(9, 1)}, []hist.Hist{four}, of(2, 1, s(3, 3, 4, 4, 9, 9), s(2, 2))},
		{"an event with a bucket's To", []api.Event{event(2, 1)}, []hist.Hist{four}, of(2, 1, s(2, 2, 3, 3, 4, 4), s(2, 2))},
		{"an event with a bucket's From", []api.Event{event(1, 1)}, []hist.Hist{four}, of(2, 1, s(2, 2, 3, 3, 4, 4), s(1, 2))},
		{"an event between buckets", []api.Event{event(3, 2)}, []hist.Hist{four}, of(2, 1, s(3, 3, 4, 4), s(2, 2, 3, 3))},
		{"the least and the greatest tick", []api.Event{event(api.MaxTick, 1), event(0, 1)}, []hist.Hist{made(t, 2, come{0, 1}, come{api.MaxTick, 1})},
			of(2, 1, s(api.MaxTick, api.MaxTick, api.MaxTick, api.MaxTick), s(0, 0))},
	} {
		expect(t, c.what, c.events, c.l, c.want)
	}
}

// P10.1: of histograms without any bucket: also such as lost all by a Drop, and R2.
func TestEmptyOnes(t *testing.T) {
	for _, k := range ks() {
		gone := expiry.Drop(made(t, k, units(9)...), 100, 10)
		nils := []hist.Hist{made(t, k), gone, {K: k}, {K: k, Levels: [][]api.Span{}}}
		for _, none := range nils {
			expect(t, "one", nil, []hist.Hist{none}, of(k, 1))
			expect(t, "no events", []api.Event{}, []hist.Hist{none}, of(k, 1))
			none.Gen = 3
			expect(t, "a merged one", nil, []hist.Hist{none}, of(k, 4))
		}
		expect(t, "all", nil, nils, of(k, 1))
		full := made(t, k, units(70)...)
		want := plain(t, nil, full)
		for i := range len(nils) + 1 {
			expect(t, "one with buckets among them", nil, slices.Insert(slices.Clone(nils), i, full), want)
		}
	}
}

// P10.1: held against buckets and events that come each for itself, and unit by unit.
func TestByEachBucket(t *testing.T) {
	each(t, func(events []api.Event, l []hist.Hist) {
		want := plain(t, events, l...)
		expect(t, "bucket by bucket", events, l, want)
		if hist.Total(want) < 1000 {
			expect(t, "unit by unit", events, l, oneByOne(t, events, l...))
		}
	})
}

// P10.1: each bucket of each level comes with its To, never its From: no tick is there that isn't a bucket's To or an event's Tick.
func TestOnlyTos(t *testing.T) {
	each(t, func(events []api.Event, l []hist.Hist) {
		known := map[uint64]int{}
		for _, c := range inTurn(events, l) {
			known[c.tick]++
		}
		for _, level := range with(t, events, l...).Levels {
			for _, b := range level {
				if known[b.From] == 0 || known[b.To] == 0 {
					t.Fatalf("of K %d there is a bucket of %v", l[0].K, b)
				}
			}
		}
	})
}

// P10.1: buckets of several histograms, and of several levels, have one To: their weight is as if it came at once.
func TestOneToOfMany(t *testing.T) {
	for _, k := range ks() {
		for _, weight := range []uint64{1, 2, 9, 100, 5000, 1 << 40, 1 << 49} {
			l := []hist.Hist{made(t, k, come{5, weight}), made(t, k, come{5, 1}), made(t, k, come{5, weight + 1}, come{5, weight})}
			want := made(t, k, come{5, 3*weight + 2})
			want.Gen = 1
			expect(t, "one tick alone", nil, l, want)
			want = made(t, k, come{5, 3*weight + 9})
			want.Gen = 1
			expect(t, "one tick, and events", []api.Event{event(5, 3), event(5, 4)}, l, want)
			l = append(l, made(t, k, come{2, 7}), made(t, k, come{6, 3}))
			want = made(t, k, come{2, 7}, come{4, 2}, come{5, 3*weight + 9}, come{6, 3}, come{8, 1})
			want.Gen = 1
			expect(t, "others around", []api.Event{event(8, 1), event(5, 3), event(4, 2), event(5, 4)}, l, want)
		}
	}
}

// P10.1: a bucket that is not of one tick comes as late as another one's only tick.
func TestToOfLongBuckets(t *testing.T) {
	for _, k := range ks() {
		// The unit of the tick 1 stands with others of the tick 9, on the last level.
		long := made(t, k, come{1, 1}, come{9, 1 << 20})
		if b := long.Levels[len(long.Levels)-1][0]; b != (api.Span{From: 1, To: 9}) {
			t.Fatalf("of K %d it is %v", k, b)
		}
		want := made(t, k, come{8, 3}, come{9, 1<<20 + 2}, come{10, 5})
		want.Gen = 1
		expect(t, "one", []api.Event{event(10, 5), event(9, 1), event(8, 3)}, []hist.Hist{long}, want)
	}
}

// P10.1: ErrArg of no histogram, whatever the events are.
func TestNone(t *testing.T) {
	expectError(t, "nothing", nil, nil, api.ErrArg)
	expectError(t, "empty lists", []api.Event{}, []hist.Hist{}, api.ErrArg)
	expectError(t, "an event", []api.Event{event(5, 1)}, nil, api.ErrArg)
	expectError(t, "a Weight of 0", []api.Event{event(5, 0)}, nil, api.ErrArg)
	expectError(t, "a Tick of 2^63", []api.Event{event(1<<63, 1)}, nil, api.ErrArg)
	expectError(t, "too much", []api.Event{event(5, math.MaxUint64), event(5, 2)}, nil, api.ErrArg)
	if h, e := Merge(); e != api.ErrArg || !empty(h) {
		t.Errorf("Merge() tells %d, %v", e, h)
	}
	if h, e := With(nil); e != api.ErrArg || !empty(h) {
		t.Errorf("With(nil) tells %d, %v", e, h)
	}
}

// P10.1: ErrArg of a Weight of 0, wherever it stands.
func TestWeightOf0(t *testing.T) {
	for _, k := range ks() {
		for _, h := range []hist.Hist{made(t, k), made(t, k, units(70)...)} {
			expectError(t, "alone", []api.Event{event(5, 0)}, []hist.Hist{h}, api.ErrArg)
			expectError(t, "the zero event", []api.Event{{}}, []hist.Hist{h}, api.ErrArg)
			expectError(t, "all", []api.Event{event(1, 0), event(2, 0)}, []hist.Hist{h, h}, api.ErrArg)
			right := []api.Event{event(5, 1), event(90, 7), event(0, 3), event(5, 9)}
			with(t, right, h)
			for i := range len(right) + 1 {
				expectError(t, "among others", slices.Insert(slices.Clone(right), i, event(5, 0)), []hist.Hist{h}, api.ErrArg)
			}
		}
	}
}

// P10.1: ErrConf of two K, wherever the odd one stands, with and without buckets.
func TestTwoK(t *testing.T) {
	for _, k := range ks() {
		for _, other := range ks() {
			if k == other {
				continue
			}
			for _, odd := range []hist.Hist{made(t, other), made(t, other, units(9)...)} {
				for many := 1; many < 5; many++ {
					for _, all := range []hist.Hist{made(t, k), made(t, k, units(9)...)} {
						for i := range many + 1 {
							l := slices.Insert(slices.Repeat([]hist.Hist{all}, many), i, odd)
							expectError(t, "one odd", nil, l, api.ErrConf)
							expectError(t, "one odd, and events", []api.Event{event(5, 1)}, l, api.ErrConf)
						}
					}
				}
			}
		}
	}
	three := []hist.Hist{made(t, 2), made(t, 3), made(t, 1024)}
	for l := range turns(three) {
		expectError(t, "three K", nil, l, api.ErrConf)
		expectError(t, "the first two", nil, l[:2], api.ErrConf)
		for _, h := range l {
			expect(t, "alone", nil, []hist.Hist{h}, of(h.K, 1))
			expect(t, "twice", nil, []hist.Hist{h, h}, of(h.K, 1))
		}
	}
}

// P10.1: Gen is 1 more than the greatest one, wherever that stands; ErrGen, if one is 4.
func TestGen(t *testing.T) {
	for _, k := range []int{2, 3, 1024} {
		for _, start := range []hist.Hist{made(t, k), made(t, k, units(30)...)} {
			var by []hist.Hist
			for gen := range api.MaxGen + 1 {
				h := aged(t, gen, start)
				if h.Gen != gen {
					t.Fatalf("merged %d times its Gen is %d", gen, h.Gen)
				}
				by = append(by, h)
			}
			for gen, h := range by {
				others := by[:min(gen+1, api.MaxGen)]
				lists := [][]hist.Hist{{h}, {h, h}}
				for i := range len(others) + 1 {
					lists = append(lists, slices.Insert(slices.Clone(others), i, h))
				}
				for _, l := range lists {
					for _, events := range [][]api.Event{nil, {event(5, 1)}} {
						if gen == api.MaxGen {
							expectError(t, "Gen 4", events, l, api.ErrGen)
						} else if got := with(t, events, l...); got.Gen != gen+1 {
							t.Errorf("of Gen %d at most it is %d", gen, got.Gen)
						}
					}
				}
			}
		}
	}
	// What comes to a merged one by Add leaves its Gen as it is.
	h := added(t, aged(t, 3, made(t, 2, units(30)...)), come{50, 9})
	if got := with(t, nil, h, made(t, 2)); got.Gen != 4 {
		t.Errorf("Gen is %d", got.Gen)
	}
}

// P10.1: ErrTick of an event's Tick above 2^63 less 1, wherever it stands.
func TestTicks(t *testing.T) {
	for _, k := range []int{2, 3, 1024} {
		for _, h := range []hist.Hist{made(t, k), made(t, k, come{0, 5}, come{7, 9}), made(t, k, come{api.MaxTick, 3})} {
			for _, tick := range []uint64{0, 1, 6, 7, 8, api.MaxTick - 1, api.MaxTick} {
				events := []api.Event{event(5, 2), event(tick, 1), event(6, 2)}
				expect(t, "it may be", events, []hist.Hist{h}, plain(t, events, h))
				expect(t, "alone", events[1:2], []hist.Hist{h}, plain(t, events[1:2], h))
			}
			for _, tick := range []uint64{1 << 63, 1<<63 + 1, math.MaxUint64 - 1, math.MaxUint64} {
				expectError(t, "alone", []api.Event{event(tick, 1)}, []hist.Hist{h}, api.ErrTick)
				right := []api.Event{event(5, 1), event(0, 1), event(api.MaxTick, 1)}
				for i := range len(right) + 1 {
					expectError(t, "among others", slices.Insert(slices.Clone(right), i, event(tick, 1)), []hist.Hist{h, h}, api.ErrTick)
				}
			}
		}
	}
}

// weigh asks for weights of histograms and of events, each of one tick: together just 2^52 they may be, one more is too much.
func weigh(t *testing.T, k int, hists, events []uint64) {
	t.Helper()
	sum := new(big.Int)
	var all []come
	let := func(tick, weight uint64) come {
		all = append(all, come{tick, weight})
		sum.Add(sum, new(big.Int).SetUint64(weight))
		return come{tick, weight}
	}
	var l []hist.Hist
	for i, weight := range hists {
		if weight == 0 {
			l = append(l, made(t, k))
			continue
		}
		l = append(l, made(t, k, let(uint64(10*i), weight)))
	}
	var some []api.Event
	for i, weight := range events {
		c := let(uint64(7*i), weight)
		some = append(some, event(c.tick, c.weight))
	}
	if sum.Cmp(big.NewInt(api.MaxTotal)) > 0 {
		expectError(t, "too much: "+sum.String(), some, l, api.ErrOver)
		return
	}
	slices.SortFunc(all, func(a, b come) int { return cmp.Compare(a.tick, b.tick) })
	want := made(t, k, all...)
	want.Gen = 1
	if hist.Total(want) != sum.Uint64() {
		t.Errorf("all is %v, but came to %d", sum, hist.Total(want))
	}
	expect(t, "it may be: "+sum.String(), some, l, want)
}

// P10.1: ErrOver of more than 2^52, by histograms, by events and by both, also where 64 bits don't bear them.
func TestTooMuch(t *testing.T) {
	const most, top = api.MaxTotal, math.MaxUint64
	for _, k := range []int{2, 3, 1024} {
		for _, c := range []struct{ hists, events []uint64 }{
			{[]uint64{most}, nil},
			{[]uint64{most, 0}, nil},
			{[]uint64{most, 1}, nil},
			{[]uint64{1, most}, nil},
			{[]uint64{most - 1, 1}, nil},
			{[]uint64{most / 2, most / 2}, nil},
			{[]uint64{most / 2, most/2 + 1}, nil},
			{[]uint64{most / 2, 1, most / 2}, nil},
			{[]uint64{most, most}, nil},
			{[]uint64{most / 4, most / 4, most / 4, most / 4}, nil},
			{[]uint64{most / 4, most / 4, most / 4, most / 4, 1}, nil},
			{[]uint64{0}, []uint64{most}},
			{[]uint64{0}, []uint64{most + 1}},
			{[]uint64{0}, []uint64{most - 1, 1}},
			{[]uint64{0}, []uint64{most - 1, 2}},
			{[]uint64{0}, []uint64{1, most}},
			{[]uint64{0}, []uint64{most, 1}},
			{[]uint64{0}, []uint64{most / 2, most/2 - 1, 1}},
			{[]uint64{0}, []uint64{most / 2, most / 2, 1}},
			{[]uint64{most}, []uint64{1}},
			{[]uint64{most - 1}, []uint64{1}},
			{[]uint64{most - 1}, []uint64{2}},
			{[]uint64{most - 1}, []uint64{1, 1}},
			{[]uint64{1}, []uint64{most - 1}},
			{[]uint64{1}, []uint64{most}},
			{[]uint64{most / 2, most / 4}, []uint64{most / 4}},
			{[]uint64{most / 2, most / 4}, []uint64{most / 4, 1}},
			{[]uint64{most/2 + 1, most / 4}, []uint64{most / 4}},
			{[]uint64{0}, []uint64{top}},
			{[]uint64{5}, []uint64{top}},
			{[]uint64{0}, []uint64{top, 1}},
			{[]uint64{0}, []uint64{1, top}},
			{[]uint64{0}, []uint64{top, 2}},
			{[]uint64{0}, []uint64{top, most + 1}},
			{[]uint64{0}, []uint64{1 << 63, 1 << 63}},
			{[]uint64{0}, []uint64{1 << 63, 1, 1 << 63}},
			{[]uint64{0}, []uint64{1 << 62, 1 << 62, 1 << 62, 1 << 62}},
			{[]uint64{0}, []uint64{top, top, 2}},
			{[]uint64{0}, []uint64{top, top, top, top, 5}},
			{[]uint64{most}, []uint64{top - most + 1}},
			{[]uint64{most}, []uint64{top - most + 2}},
			{[]uint64{most / 2, most / 2}, []uint64{top - most + 1}},
			{[]uint64{7}, []uint64{top - 6}},
		} {
			weigh(t, k, c.hists, c.events)
		}
	}
	// So many histograms' Totals are 2^64 together.
	weigh(t, 2, slices.Repeat([]uint64{most}, 1<<12), nil)
	weigh(t, 2, slices.Repeat([]uint64{most}, 1<<12), []uint64{5})
	weigh(t, 2, slices.Repeat([]uint64{most / 256}, 256), nil)
	weigh(t, 2, slices.Repeat([]uint64{most / 256}, 256), []uint64{1})
}

// P10.1: ErrOver where all is of one tick, and 2^64 or a bit more: none of it is too much for itself.
func TestTooMuchOfOneTick(t *testing.T) {
	const many = 1 << 12 // so many times 2^52 is 2^64
	for _, k := range []int{2, 3, 1024} {
		none, full := made(t, k), made(t, k, come{5, api.MaxTotal})
		events := slices.Repeat([]api.Event{event(5, api.MaxTotal)}, many)
		expectError(t, "events, 2^64", events, []hist.Hist{none}, api.ErrOver)
		expectError(t, "events, 2^64 and 7", append(slices.Clone(events), event(5, 7)), []hist.Hist{none}, api.ErrOver)
		expectError(t, "both, 2^64", events[1:], []hist.Hist{full}, api.ErrOver)
		expectError(t, "both, 2^64 and 7", append(slices.Clone(events[1:]), event(5, 7)), []hist.Hist{full}, api.ErrOver)
		expectError(t, "histograms, 2^64", nil, slices.Repeat([]hist.Hist{full}, many), api.ErrOver)
		expectError(t, "histograms, 2^64 and 7", nil, append(slices.Repeat([]hist.Hist{full}, many), made(t, k, come{5, 7})), api.ErrOver)
	}
}

// P10.1, R1: of several errors at once the one that is named first is told, in whatever turn what is wrong stands, and nothing beside it.
func TestSeveralErrors(t *testing.T) {
	errors := []api.Errno{api.ErrArg, api.ErrConf, api.ErrGen, api.ErrTick, api.ErrOver}
	first, old, odd := made(t, 2, units(9)...), aged(t, 4, made(t, 2, units(9)...)), made(t, 3, units(9)...)
	for wrong := range uint(1 << len(errors)) {
		holds := func(e api.Errno) bool { return wrong>>slices.Index(errors, e)&1 == 1 }
		events, l := []api.Event{event(5, 2)}, []hist.Hist{first}
		if holds(api.ErrArg) {
			events = append(events, event(6, 0))
		}
		if holds(api.ErrConf) {
			l = append(l, odd)
		}
		if holds(api.ErrGen) {
			l = append(l, old)
		}
		if holds(api.ErrTick) {
			events = append(events, event(1<<63, 1))
		}
		if holds(api.ErrOver) {
			events = append(events, event(7, api.MaxTotal))
		}
		for some := range turns(events) {
			for list := range turns(l) {
				if wrong == 0 {
					expect(t, "nothing is wrong", some, list, plain(t, some, list...))
					continue
				}
				expectError(t, "several", some, list, errors[bits.TrailingZeros(wrong)])
			}
		}
	}
}

// P10.1, R1: one event, or one histogram, that is wrong in several ways at once.
func TestOneThingOfSeveralErrors(t *testing.T) {
	full := made(t, 2, come{5, api.MaxTotal})
	old, odd := aged(t, 4, full), aged(t, 4, made(t, 3, come{5, api.MaxTotal}))
	for _, c := range []struct {
		what   string
		events []api.Event
		l      []hist.Hist
		want   api.Errno
	}{
		{"no Weight, and a Tick that may not be", []api.Event{event(1<<63, 0)}, []hist.Hist{full}, api.ErrArg},
		{"no Weight, and all others", []api.Event{event(1<<63, 0)}, []hist.Hist{full, odd, old}, api.ErrArg},
		{"too much, and a Tick that may not be", []api.Event{event(1<<63, math.MaxUint64)}, []hist.Hist{full}, api.ErrTick},
		{"another K, merged too often, and too much", nil, []hist.Hist{full, odd}, api.ErrConf},
		{"another K, merged too often, and too much, first", nil, []hist.Hist{odd, full}, api.ErrConf},
		{"merged too often, and too much", nil, []hist.Hist{full, old}, api.ErrGen},
		{"merged too often, and too much, first", nil, []hist.Hist{old, full}, api.ErrGen},
		{"merged too often, and an event that may not be", []api.Event{event(math.MaxUint64, math.MaxUint64)}, []hist.Hist{old}, api.ErrGen},
		{"too much, by both", []api.Event{event(4, 1)}, []hist.Hist{full, full}, api.ErrOver},
		{"full", nil, []hist.Hist{full, made(t, 2)}, api.OK},
	} {
		if c.want == api.OK {
			expect(t, c.what, c.events, c.l, plain(t, c.events, c.l...))
		} else {
			expectError(t, c.what, c.events, c.l, c.want)
		}
	}
}

// P10.2: its Total is theirs, and the events', together.
func TestTotal(t *testing.T) {
	each(t, func(events []api.Event, l []hist.Hist) {
		var want uint64
		for _, h := range l {
			want += hist.Total(h)
		}
		for _, e := range events {
			want += e.Weight
		}
		if got := hist.Total(with(t, events, l...)); got != want {
			t.Fatalf("of K %d it is %d, want %d", l[0].K, got, want)
		}
	})
}

// P10.2: in whatever turn histograms, and events, are handed in, it is the same.
func TestAnyTurn(t *testing.T) {
	for _, k := range ks() {
		d := &dice{uint64(k)}
		for size := range 4 {
			var l []hist.Hist
			for gen := range 4 {
				l = append(l, aged(t, gen, made(t, k, d.stream(1+size*10)...)))
			}
			events := append(d.events(2, 50), event(l[0].Levels[0][0].To, 5))
			want := with(t, events, l...)
			alone := with(t, nil, l...)
			for list := range turns(l) {
				expect(t, "no events", nil, list, alone)
				for some := range turns(events) {
					expect(t, "both", some, list, want)
				}
			}
		}
	}
}

// P10.2: many histograms and events, as they are, from the last one on, and with each other one first.
func TestAnyTurnOfMany(t *testing.T) {
	each(t, func(events []api.Event, l []hist.Hist) {
		want := with(t, events, l...)
		events, l = slices.Clone(events), slices.Clone(l)
		slices.Reverse(events)
		slices.Reverse(l)
		expect(t, "from the last one on", events, l, want)
		for i := range l {
			l[0], l[i] = l[i], l[0]
			expect(t, "another one first", events, l, want)
		}
		slices.SortFunc(events, func(a, b api.Event) int { return cmp.Compare(a.Tick, b.Tick) })
		expect(t, "events by their ticks", events, l, want)
	})
}

// P10.1: an event by itself is as a histogram of its weight, and several of one tick are as one.
func TestEventAsHistogram(t *testing.T) {
	each(t, func(events []api.Event, l []hist.Hist) {
		want := with(t, events, l...)
		all := slices.Clone(l)
		for _, e := range events {
			all = append(all, made(t, l[0].K, come{e.Tick, e.Weight}))
		}
		expect(t, "each as a histogram", nil, all, want)
		var units []api.Event
		for _, e := range events {
			units = append(units, slices.Repeat([]api.Event{{Tick: e.Tick, Weight: 1}}, int(e.Weight))...)
		}
		expect(t, "each as units", units, l, want)
	})
	for _, k := range ks() {
		for _, weight := range []uint64{1, 2, 77, 5000, 1 << 40, api.MaxTotal} {
			for _, tick := range []uint64{0, 5, api.MaxTick} {
				h := made(t, k, come{tick, weight})
				h.Gen = 1
				expect(t, "an event alone", []api.Event{event(tick, weight)}, []hist.Hist{made(t, k)}, h)
				h.Gen = 0
				expect(t, "a histogram alone", nil, []hist.Hist{h}, with(t, []api.Event{event(tick, weight)}, made(t, k)))
			}
		}
	}
}

// P10.1: events are asked for their Tick and Weight, not for their Key.
func TestKeysAreNotAsked(t *testing.T) {
	h := made(t, 2, units(30)...)
	want := plain(t, []api.Event{{Tick: 7, Weight: 3}, {Tick: 7, Weight: 1}}, h)
	for _, key := range []uint64{0, 1, 7, api.Prime - 1, api.Prime, math.MaxUint64} {
		expect(t, "a key", []api.Event{{Tick: 7, Key: key, Weight: 3}, {Tick: 7, Key: 5, Weight: 1}}, []hist.Hist{h}, want)
	}
}

// checkMerged tells what is wrong, if a merged one may not be, or has too many buckets.
func checkMerged(t *testing.T, h hist.Hist) {
	t.Helper()
	if e := check.Hist(h); e != api.OK {
		t.Fatalf("of K %d and Gen %d check.Hist tells %d", h.K, h.Gen, e)
	}
	if n, most := check.Buckets(h), check.Bound(h.K, h.Gen, hist.Total(h)); n > most {
		t.Fatalf("of K %d and Gen %d there are %d buckets, but %d at most may be", h.K, h.Gen, n, most)
	}
}

// P10.1, P6: what is merged may be, and has no more buckets than it may have.
func TestMergedMayBe(t *testing.T) {
	each(t, func(events []api.Event, l []hist.Hist) {
		h := with(t, events, l...)
		checkMerged(t, h)
		// More may come to it, and what is old may go from it.
		last, _ := hist.Last(h)
		checkMerged(t, added(t, h, come{last, 9}, come{last + 1, 70}))
		checkMerged(t, expiry.Drop(h, last, last/2))
	})
	for _, k := range ks() {
		h := made(t, k, come{4, 1}, come{5, api.MaxTotal - 2})
		for range api.MaxGen {
			h = with(t, nil, h, made(t, k))
			checkMerged(t, h)
		}
		h = added(t, h, come{6, 1})
		checkMerged(t, h)
		if _, e := hist.Add(h, 6, 1); e != api.ErrOver {
			t.Errorf("of K %d more comes to it: %d", k, e)
		}
	}
}

// known is a histogram, and all that came to those of which it is made; of ticks up to gone buckets may have been dropped.
type known struct {
	h    hist.Hist
	all  []come
	gone uint64
}

// came is how many units came whose tick is within.
func (n known) came(tick, span uint64) uint64 {
	var units uint64
	for _, c := range n.all {
		sum, carry := bits.Add64(c.tick, span, 0)
		if carry > 0 || sum > tick {
			units += c.weight
		}
	}
	return units
}

// more is one to which some more came, behind all others.
func (n known) more(t *testing.T, all ...come) known {
	t.Helper()
	return known{added(t, n.h, all...), slices.Concat(n.all, all), n.gone}
}

// merged is several, and events, as one.
func merged(t *testing.T, events []api.Event, l ...known) known {
	t.Helper()
	var out known
	var hists []hist.Hist
	for _, n := range l {
		hists = append(hists, n.h)
		out.all = append(out.all, n.all...)
		out.gone = max(out.gone, n.gone)
	}
	for _, e := range events {
		out.all = append(out.all, come{e.Tick, e.Weight})
	}
	out.h = with(t, events, hists...)
	return out
}

// limits are both sides of both bounds of the theorem: the first of each two is no more than the second.
func limits(k, gen int, n, of uint64) [4]*big.Int {
	number := func(n uint64) *big.Int { return new(big.Int).SetUint64(n) }
	power := func(base, e int) *big.Int {
		return new(big.Int).Exp(big.NewInt(int64(base)), big.NewInt(int64(e)), nil)
	}
	times := func(a, b *big.Int) *big.Int { return new(big.Int).Mul(a, b) }
	return [4]*big.Int{
		times(number(uint64(k-1)), number(n)),
		times(number(uint64(k)), number(of)),
		times(power(k, gen+1), number(of)),
		times(times(number(uint64(k+1)), power(k+2, gen)), number(n)),
	}
}

// holds tells whether both bounds hold.
func holds(k, gen int, n, of uint64) bool {
	l := limits(k, gen, n, of)
	return l[0].Cmp(l[1]) <= 0 && l[2].Cmp(l[3]) <= 0
}

// checkBounds tells what is wrong, if the theorem doesn't hold of a tick and a span; it isn't asked where buckets may have been dropped.
func (n known) checkBounds(t *testing.T, tick, span uint64) {
	t.Helper()
	if n.gone > 0 && (span > tick || tick-span < n.gone) {
		return
	}
	units, of := n.came(tick, span), estimate.Of(n.h, tick, span)
	if !holds(n.h.K, n.h.Gen, units, of) {
		t.Fatalf("of K %d, Gen %d, the tick %d and the span %d %d came within, but estimate.Of is %d", n.h.K, n.h.Gen, tick, span, units, of)
	}
}

// checkAll asks for the bounds from several ticks on, cut at each tick of which something came, and beside it.
func (n known) checkAll(t *testing.T) {
	t.Helper()
	last, _ := hist.Last(n.h)
	var edges []uint64
	for _, c := range n.all {
		edges = append(edges, max(c.tick, 1)-1, c.tick)
	}
	slices.Sort(edges)
	edges = slices.Compact(edges)
	step := 1 + len(edges)/200
	for i, edge := range edges {
		if i%step != 0 && i < len(edges)-20 {
			continue
		}
		for _, tick := range []uint64{last, last + 5, math.MaxUint64} {
			if tick >= edge {
				n.checkBounds(t, tick, tick-edge)
			}
		}
		n.checkBounds(t, edge, 1)
	}
	for _, tick := range []uint64{0, last / 2, last, api.MaxTick, math.MaxUint64} {
		for _, span := range []uint64{0, 1, last / 2, last, last + 1, math.MaxUint64} {
			n.checkBounds(t, tick, span)
		}
	}
}

// leaf is one that was never merged.
func leaf(t *testing.T, k int, all ...come) known {
	t.Helper()
	return known{h: made(t, k, all...), all: all}
}

// tree is one of a Gen, merged of some of lesser ones and of events; more came to each of them.
func tree(t *testing.T, d *dice, k, gen, size int) known {
	t.Helper()
	if gen == 0 {
		return leaf(t, k, d.stream(size)...)
	}
	l := []known{tree(t, d, k, gen-1, size)}
	for range 1 + d.below(2) {
		l = append(l, tree(t, d, k, int(d.below(uint64(gen))), size))
	}
	n := merged(t, d.events(int(d.below(9)), 1+uint64(size)), l...)
	last, _ := hist.Last(n.h)
	for range d.below(20) {
		last += d.below(3)
		n = n.more(t, come{last, 1 + d.below(30)})
	}
	return n
}

// P10.3: merges of merges, of Gens 1 to 4.
func TestBounds(t *testing.T) {
	for _, k := range ks() {
		for gen := 1; gen <= api.MaxGen; gen++ {
			for _, size := range []int{1, 10, 60, 300} {
				n := tree(t, &dice{uint64(k*gen + size)}, k, gen, size)
				if n.h.Gen != gen {
					t.Fatalf("Gen is %d, not %d", n.h.Gen, gen)
				}
				checkMerged(t, n.h)
				n.checkAll(t)
			}
		}
	}
}

// P10.3: units, tick by tick, that went to several histograms by turns; merged again and again, alone and with each other.
func TestBoundsOfUnits(t *testing.T) {
	for _, k := range []int{2, 3, 4, 8, 9} {
		for _, parts := range []uint64{1, 2, 3, 5} {
			l := make([]known, parts)
			for i := range l {
				l[i] = leaf(t, k)
			}
			for _, c := range units(1500) {
				i := c.tick % parts
				l[i] = l[i].more(t, c)
			}
			whole := merged(t, nil, l...)
			for gen := 1; gen <= api.MaxGen; gen++ {
				for span := uint64(0); span <= 1501; span++ {
					whole.checkBounds(t, 1500, span)
				}
				if gen < api.MaxGen {
					whole = merged(t, nil, whole, leaf(t, k))
				}
			}
		}
	}
}

// P10.3: at great weights, up to the greatest.
func TestBoundsOfGreatWeights(t *testing.T) {
	for _, k := range ks() {
		var rising, falling []come
		for i := range uint64(45) {
			rising = append(rising, come{10 + 2*i, 1<<i + i%2})
			falling = append(falling, come{9 + 3*i, 1<<(45-i) - i%2})
		}
		n := leaf(t, k, rising...)
		for range api.MaxGen {
			n = merged(t, []api.Event{event(77, 1<<44), event(20, 12345)}, n, leaf(t, k, falling...))
			n.checkAll(t)
		}
		n = n.more(t, come{api.MaxTick, api.MaxTotal - hist.Total(n.h)})
		checkMerged(t, n.h)
		n.checkAll(t)
	}
}

// P10.3: where buckets were dropped ahead of a merge, and behind it, that are old by each histogram's own front.
func TestBoundsWithDrops(t *testing.T) {
	asked := 0
	for _, k := range ks() {
		for _, window := range []uint64{1, 7, 40, 150} {
			d := &dice{uint64(k) + window}
			drop := func(n known, front uint64) known {
				if front >= window {
					n.h = expiry.Drop(n.h, front, window)
					n.gone = max(n.gone, front-window)
				}
				return n
			}
			n := leaf(t, k, d.stream(100)...)
			for range api.MaxGen {
				last, _ := hist.Last(n.h)
				other := leaf(t, k, d.stream(130)...)
				front, _ := hist.Last(other.h)
				n = merged(t, d.events(5, last+1), drop(n, last), drop(other, front))
				n.checkAll(t)
				last, _ = hist.Last(n.h)
				for i := range uint64(60) {
					n = n.more(t, come{last + i, 1 + d.below(9)})
				}
				n = drop(n, last+60)
				n.checkAll(t)
				for span := range window {
					n.checkBounds(t, last+60, span+1)
					asked++
				}
			}
		}
	}
	if asked < 1000 {
		t.Errorf("it is asked only %d times", asked)
	}
}

// P10.3: what is merged is hard enough to tell: the upper bound of one that was never merged would not hold of it.
func TestBoundsNeedTheGen(t *testing.T) {
	for _, k := range []int{8, 31} {
		a, b := leaf(t, k), leaf(t, k)
		for _, c := range units(4000) {
			// The one has all of its units ahead of the other's, but for a few.
			if c.tick%50 == 0 || c.tick < 2000 {
				a = a.more(t, c)
			} else {
				b = b.more(t, c)
			}
		}
		n := merged(t, nil, merged(t, nil, merged(t, nil, merged(t, nil, a, b))))
		broken := false
		for span := range uint64(4001) {
			n.checkBounds(t, 4000, span)
			broken = broken || !holds(k, 0, n.came(4000, span), estimate.Of(n.h, 4000, span))
		}
		if !broken {
			t.Errorf("of K %d it is too easy", k)
		}
	}
}

// roomy is a histogram with the same buckets, and room behind them, so that what is written there is seen, too.
func roomy(h hist.Hist) (hist.Hist, [][]api.Span) {
	mark := api.Span{From: 1, To: 99}
	out := hist.Hist{K: h.K, Gen: h.Gen}
	var all [][]api.Span
	for _, l := range h.Levels {
		room := append(slices.Clone(l), mark, mark)
		all = append(all, room)
		out.Levels = append(out.Levels, room[:len(l)])
	}
	return out, all
}

// R3, R4: no call writes into what was handed in, and the same call tells the same.
func TestNothingIsWritten(t *testing.T) {
	same := slices.Equal[[]api.Span]
	each(t, func(events []api.Event, l []hist.Hist) {
		given := make([]hist.Hist, 0, len(l)+2)
		var rooms [][][]api.Span
		for _, h := range l {
			g, room := roomy(h)
			given, rooms = append(given, g), append(rooms, room)
		}
		listed := append(slices.Clone(events), event(3, 3), event(1, 1))
		before := slices.Clone(listed)
		first := with(t, listed[:len(events)], given...)
		for _, wrong := range []api.Event{event(5, 0), event(1<<63, 1), event(5, math.MaxUint64)} {
			With(append(slices.Clone(events), wrong), given...)
		}
		Merge(given...)
		if !hist.Same(first, with(t, listed[:len(events)], given...)) {
			t.Fatalf("of K %d it is another one the second time", l[0].K)
		}
		behind := given[len(l) : len(l)+2]
		if !slices.Equal(listed, before) || !empty(behind[0]) || !empty(behind[1]) {
			t.Fatalf("of K %d a list that was handed in is another one", l[0].K)
		}
		for i, h := range l {
			_, want := roomy(h)
			if !hist.Same(given[i], h) || !slices.EqualFunc(rooms[i], want, same) {
				t.Fatalf("of K %d what was handed in is another one", h.K)
			}
		}
	})
}

// R3: what was told stays as it is, whatever is done with it behind that.
func TestWhatWasToldStays(t *testing.T) {
	for _, k := range []int{2, 3, 1024} {
		first := with(t, []api.Event{event(40, 9)}, made(t, k, units(30)...), made(t, k, units(50)...))
		_, want := roomy(first)
		with(t, []api.Event{event(0, 7)}, first, added(t, first, come{60, 5}), expiry.Drop(first, 40, 20))
		if _, now := roomy(first); !slices.EqualFunc(now, want, slices.Equal[[]api.Span]) {
			t.Errorf("of K %d it is another one", k)
		}
	}
}

// P1: what was never made is asked without a panic, too, and beside an error nothing is told.
func TestOfWhatWasNotMade(t *testing.T) {
	spans := s(9, 1, math.MaxUint64, math.MaxUint64, 0, 0, 5, 1<<63)
	low := s(9, 1, 3, 2, 0, 0)
	odd := []hist.Hist{
		{}, {K: -1, Gen: -1}, {K: 1}, {K: 1025}, {K: math.MaxInt, Gen: math.MaxInt}, {K: math.MinInt, Gen: math.MinInt},
		{K: 2, Gen: 5}, {K: 2, Gen: -7}, {K: 2, Gen: math.MinInt}, {K: 2, Gen: math.MaxInt},
		{K: 2, Levels: make([][]api.Span, 80)},
		{K: 2, Levels: slices.Repeat([][]api.Span{spans}, 80)},
		{K: 2, Levels: slices.Repeat([][]api.Span{low}, 80)},
		{K: 2, Levels: [][]api.Span{spans}}, {K: 2, Levels: [][]api.Span{low, low, nil, {}, low, nil}},
		{K: 0, Levels: [][]api.Span{low}}, {K: 1 << 40, Levels: [][]api.Span{low}},
		{K: 2, Levels: [][]api.Span{slices.Repeat(s(7, 7), 5000)}},
		{K: 2, Levels: append(make([][]api.Span, 64), low)},
		{K: 2, Levels: append(make([][]api.Span, 63), s(1, 1, 1, 1))},
		{K: 2, Levels: append(make([][]api.Span, 63), s(1, 1, 2, 2))},
	}
	for _, events := range [][]api.Event{nil, {event(5, 1)}, {event(1, 1), event(api.MaxTick, 1)}, {{}}, {event(math.MaxUint64, math.MaxUint64)}} {
		for _, a := range odd {
			for _, l := range [][]hist.Hist{{a}, {a, a}, {made(t, 2, units(9)...), a}, {a, made(t, 2)}} {
				if h, e := With(events, l...); e != api.OK && !empty(h) {
					t.Errorf("of %v it tells %d, %v", l, e, h)
				}
			}
		}
	}
}
