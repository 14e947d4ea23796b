package expiry

import (
	"math"
	"math/big"
	"slices"
	"testing"

	"skylight/api"
	"skylight/hist"
	"skylight/level"
)

// come is weight of a tick.
type come struct{ tick, weight uint64 }

// s is buckets by their From and To.
func s(ticks ...uint64) []api.Span {
	var l []api.Span
	for pair := range slices.Chunk(ticks, 2) {
		l = append(l, api.Span{From: pair[0], To: pair[1]})
	}
	return l
}

// alike are so many buckets of one tick.
func alike(many int, tick uint64) []api.Span {
	return slices.Repeat(s(tick, tick), many)
}

// made is a histogram to which some came.
func made(t *testing.T, k int, all ...come) hist.Hist {
	t.Helper()
	h, e := hist.New(k)
	if e != api.OK {
		t.Fatalf("hist.New(%d) tells %d", k, e)
	}
	return added(t, h, all...)
}

// added is a histogram to which some more came.
func added(t *testing.T, h hist.Hist, all ...come) hist.Hist {
	t.Helper()
	for _, c := range all {
		next, e := hist.Add(h, c.tick, c.weight)
		if e != api.OK {
			t.Fatalf("hist.Add(%v, %d, %d) tells %d", h, c.tick, c.weight, e)
		}
		h = next
	}
	return h
}

// units are a unit at each of the ticks 1 to many.
func units(many uint64) []come {
	var all []come
	for i := range many {
		all = append(all, come{i + 1, 1})
	}
	return all
}

// equal tells whether two histograms are the same, by all their fields; nil and empty are alike.
func equal(a, b hist.Hist) bool {
	return a.K == b.K && a.Gen == b.Gen && sameLevels(a.Levels, b.Levels)
}

// sameLevels tells whether buckets are the same, level by level; nil and empty are alike.
func sameLevels(a, b [][]api.Span) bool {
	return slices.EqualFunc(a, b, slices.Equal[[]api.Span])
}

// wholeOld is what Old should tell, by whole numbers.
func wholeOld(tick, front, window uint64) bool {
	sum := new(big.Int).SetUint64(tick)
	sum.Add(sum, new(big.Int).SetUint64(window))
	return sum.Cmp(new(big.Int).SetUint64(front)) <= 0
}

// filtered is what Drop should tell: each bucket is asked for itself, and the levels without one go, from the last one on.
func filtered(h hist.Hist, front, window uint64) hist.Hist {
	out := hist.Hist{K: h.K, Gen: h.Gen}
	for _, l := range h.Levels {
		var stay []api.Span
		for _, b := range l {
			if !wholeOld(b.To, front, window) {
				stay = append(stay, b)
			}
		}
		out.Levels = append(out.Levels, stay)
	}
	for len(out.Levels) > 0 && len(out.Levels[len(out.Levels)-1]) == 0 {
		out.Levels = out.Levels[:len(out.Levels)-1]
	}
	return out
}

// inTurn are all buckets of a histogram, the oldest first.
func inTurn(h hist.Hist) []api.Span {
	var all []api.Span
	for _, l := range slices.Backward(h.Levels) {
		all = append(all, l...)
	}
	return all
}

// ks are numbers of k: small ones, odd and even, and great ones.
func ks() []int { return []int{2, 3, 4, 5, 8, 9, 31, 1023, 1024} }

// streams are weights one behind the other, by rising ticks: units, several of one tick, ticks that are skipped, weights of all sizes, the least and the greatest tick.
func streams() [][]come {
	all := [][]come{nil, {{0, 1}}, {{0, 9}, {1, 1}}, {{7, 1}, {7, 2}, {9, 40}}, {{0, 5000}, {api.MaxTick - 1, 77}, {api.MaxTick, 3}}, {{3, 1 << 51}, {8, 1 << 40}, {9, 12345}, {30, 1}}}
	var mixed, growing []come
	for i := range uint64(70) {
		mixed = append(mixed, come{3 * (i / 2), i*i%23 + 1})
		growing = append(growing, come{1<<40 + i*i, i + 1})
	}
	return append(all, units(70), mixed, growing)
}

// windows are lengths of a window.
func windows() []uint64 { return []uint64{0, 1, 2, 10, 1 << 40, api.MaxSpan, 1 << 63, math.MaxUint64} }

// fronts are those at which a bucket of a histogram grows old, those just ahead and behind, and the ends.
func fronts(h hist.Hist, window uint64) []uint64 {
	all := []uint64{0, 1, window, api.MaxTick, math.MaxUint64}
	for _, b := range inTurn(h) {
		for _, tick := range []uint64{b.From, b.To} {
			all = append(all, tick+window-1, tick+window, tick+window+1)
		}
	}
	slices.Sort(all)
	return slices.Compact(all)
}

// eachHist calls with histograms that were made, of each k and stream, and of several Gens.
func eachHist(t *testing.T, call func(h hist.Hist)) {
	t.Helper()
	for _, k := range ks() {
		for i, stream := range streams() {
			h := made(t, k, stream...)
			h.Gen = i % (api.MaxGen + 1)
			call(h)
		}
	}
}

// eachDrop calls with histograms that were made, and fronts and windows for them.
func eachDrop(t *testing.T, call func(h hist.Hist, front, window uint64)) {
	t.Helper()
	eachHist(t, func(h hist.Hist) {
		for _, window := range windows() {
			for _, front := range fronts(h, window) {
				call(h, front, window)
			}
		}
	})
}

// The example of the chapter, and the sixth one of the whole.
func TestOldExample(t *testing.T) {
	for front := range uint64(40) {
		if got := Old(5, front, 10); got != (front >= 15) {
			t.Errorf("Old(5, %d, 10) is %v", front, got)
		}
	}
}

// P7.1.
func TestOld(t *testing.T) {
	const most = math.MaxUint64
	for _, c := range []struct {
		what                string
		tick, front, window uint64
		want                bool
	}{
		{"one below front", 4, 15, 10, true},
		{"just front", 5, 15, 10, true},
		{"one above front", 6, 15, 10, false},
		{"all 0", 0, 0, 0, true},
		{"the tick 0, at the window", 0, 10, 10, true},
		{"the tick 0, ahead of the window", 0, 9, 10, false},
		{"the tick 0, behind the window", 0, 11, 10, true},
		{"no window, at front", 7, 7, 0, true},
		{"no window, ahead of front", 6, 7, 0, true},
		{"no window, behind front", 8, 7, 0, false},
		{"the front 0, a tick", 1, 0, 0, false},
		{"the front 0, a window", 0, 0, 1, false},
		{"the front 0, both", 1, 0, 1, false},
		{"a tick behind front", 16, 15, 10, false},
		{"the greatest front", 5, most, 10, true},
		{"the greatest tick and front", most, most, 0, true},
		{"the greatest tick, one below front", most - 1, most, 0, true},
		{"the greatest window and front", 0, most, most, true},
		{"together one below the greatest front", most - 11, most, 10, true},
		{"together the greatest front", most - 10, most, 10, true},
		{"together 2^64, the greatest front", most - 9, most, 10, false},
		{"together 2^64, the front 0", most - 9, 0, 10, false},
		{"together 2^64 and 5, the front 15", most - 4, 15, 10, false},
		{"together 2^64 by halves, the front 0", 1 << 63, 0, 1 << 63, false},
		{"together 2^64 by halves, the greatest front", 1 << 63, most, 1 << 63, false},
		{"together 2^64 less 1 by halves", 1<<63 - 1, most, 1 << 63, true},
		{"the greatest tick, a window of 1, the front 0", most, 0, 1, false},
		{"the greatest tick, a window of 1", most, most, 1, false},
		{"the greatest window, the tick 1, the front 0", 1, 0, most, false},
		{"the greatest window, the tick 1", 1, most, most, false},
		{"the greatest tick and window", most, most, most, false},
		{"the greatest tick and window, just below front if modulo 2^64", most, most - 1, most, false},
		{"the greatest tick and window, the front 0", most, 0, most, false},
		{"the greatest window, the front one below", 0, most - 1, most, false},
		{"the greatest tick, the front one below", most, most - 1, 0, false},
	} {
		if got := Old(c.tick, c.front, c.window); got != c.want {
			t.Errorf("%s: Old(%d, %d, %d) is %v", c.what, c.tick, c.front, c.window, got)
		}
	}
}

// P7.1: held against whole numbers.
func TestOldByWholeNumbers(t *testing.T) {
	var all []uint64
	for _, n := range []uint64{0, 10, 1 << 32, api.MaxSpan, 1 << 63} {
		for d := range uint64(9) {
			all = append(all, n+d-4)
		}
	}
	for _, tick := range all {
		for _, front := range all {
			for _, window := range all {
				if got := Old(tick, front, window); got != wholeOld(tick, front, window) {
					t.Fatalf("Old(%d, %d, %d) is %v", tick, front, window, got)
				}
			}
		}
	}
}

// P7.1: a tick that is old stays so, and so is each one ahead of it.
func TestOldStaysOld(t *testing.T) {
	for _, window := range windows() {
		for tick := range uint64(20) {
			for front := range uint64(40) {
				if Old(tick+1, front, window) && !Old(tick, front, window) || Old(tick, front, window) && !Old(tick, front+1, window) {
					t.Errorf("of the window %d, the tick %d and the front %d", window, tick, front)
				}
			}
		}
	}
}

// P7.1, worked out by hand.
func TestDrop(t *testing.T) {
	// Level 0: 15, 16. Level 1: 13 to 14. Level 2: 9 to 12. Level 3: 1 to 8.
	sixteen := made(t, 2, units(16)...)
	// Level 0: 9, 10, 11. Level 1: 5 to 6, 7 to 8. Level 2: 1 to 4.
	eleven := made(t, 2, units(11)...)
	// Level 0: three of 7. Level 1: two of 5.
	two := made(t, 2, come{5, 4}, come{7, 3})
	// One tick alone, on three levels.
	one := made(t, 2, come{5, 8})
	for _, c := range []struct {
		what          string
		h             hist.Hist
		front, window uint64
		want          [][]api.Span
	}{
		{"nothing is old", sixteen, 17, 10, sixteen.Levels},
		{"a From is old, no To", sixteen, 11, 10, sixteen.Levels},
		{"the last level's To is not old by one", sixteen, 17, 10, sixteen.Levels},
		{"all of the last level", sixteen, 18, 10, sixteen.Levels[:3]},
		{"the next level's To is not old by one", sixteen, 21, 10, sixteen.Levels[:3]},
		{"two levels", sixteen, 22, 10, sixteen.Levels[:2]},
		{"three levels", sixteen, 24, 10, sixteen.Levels[:1]},
		{"a part of level 0", sixteen, 25, 10, [][]api.Span{s(16, 16)}},
		{"everything", sixteen, 26, 10, nil},
		{"everything, long ago", sixteen, math.MaxUint64, 10, nil},
		{"the front 0", sixteen, 0, 10, sixteen.Levels},
		{"no window, the front 0", sixteen, 0, 0, sixteen.Levels},
		{"no window, at front", sixteen, 16, 0, nil},
		{"no window, one below front", sixteen, 15, 0, [][]api.Span{s(16, 16)}},
		{"a window that front never reaches", sixteen, math.MaxUint64, math.MaxUint64, sixteen.Levels},
		{"together 2^64 for the last level", sixteen, math.MaxUint64, math.MaxUint64 - 7, sixteen.Levels},
		{"together 2^64 less 1 for it", sixteen, math.MaxUint64, math.MaxUint64 - 8, sixteen.Levels[:3]},
		{"a level, and a From of the next one", eleven, 15, 10, [][]api.Span{s(9, 9, 10, 10, 11, 11), s(5, 6, 7, 8)}},
		{"a level, and a part of the next one", eleven, 16, 10, [][]api.Span{s(9, 9, 10, 10, 11, 11), s(7, 8)}},
		{"a From of what stays there", eleven, 17, 10, [][]api.Span{s(9, 9, 10, 10, 11, 11), s(7, 8)}},
		{"all of these levels", eleven, 18, 10, [][]api.Span{s(9, 9, 10, 10, 11, 11)}},
		{"two of the three on level 0", eleven, 20, 10, [][]api.Span{s(11, 11)}},
		{"two alike, not old", two, 14, 10, two.Levels},
		{"two alike", two, 15, 10, [][]api.Span{alike(3, 7)}},
		{"three alike, not old", two, 16, 10, [][]api.Span{alike(3, 7)}},
		{"three alike", two, 17, 10, nil},
		{"one tick on several levels, not old", one, 14, 10, one.Levels},
		{"one tick on several levels", one, 15, 10, nil},
	} {
		want := hist.Hist{K: c.h.K, Gen: c.h.Gen, Levels: c.want}
		if got := Drop(c.h, c.front, c.window); !equal(got, want) {
			t.Errorf("%s: Drop(%v, %d, %d) is %v, want %v", c.what, c.h, c.front, c.window, got, want)
		}
	}
}

// P7.1: a part of the last level of several, from its first bucket on.
func TestDropPartOfTheLastLevel(t *testing.T) {
	// Of K 9 level 0 has 9 or 10, level 1 five or six.
	h := made(t, 9, units(21)...)
	if len(h.Levels) != 2 || !slices.Equal(h.Levels[1], s(1, 2, 3, 4, 5, 6, 7, 8, 9, 10, 11, 12)) {
		t.Fatalf("it is %v", h)
	}
	for gone, stay := range [][]api.Span{h.Levels[1], h.Levels[1][1:], h.Levels[1][2:], h.Levels[1][3:], h.Levels[1][4:], h.Levels[1][5:]} {
		// At the first of these fronts the next one's From is old, too, at none its To.
		for _, front := range []uint64{uint64(2*gone) + 100, uint64(2*gone) + 101} {
			want := hist.Hist{K: 9, Levels: [][]api.Span{h.Levels[0], stay}}
			if got := Drop(h, front, 100); !equal(got, want) {
				t.Errorf("Drop(%v, %d, 100) is %v, want %v", h, front, got, want)
			}
		}
	}
}

// P7.1: buckets of one tick, on several levels and beside others, go at once.
func TestDropOneTickOnSeveralLevels(t *testing.T) {
	h := made(t, 4, come{2, 3}, come{6, 50}, come{9, 3})
	var with int
	for _, l := range h.Levels {
		if slices.Contains(l, api.Span{From: 6, To: 6}) {
			with++
		}
	}
	if with < 3 {
		t.Fatalf("in %v the tick 6 is on %d levels", h, with)
	}
	if got := Drop(h, 15, 10); slices.Contains(inTurn(got), api.Span{From: 2, To: 2}) || !slices.Contains(inTurn(got), api.Span{From: 2, To: 6}) || hist.Total(got) != hist.Total(h) {
		t.Errorf("ahead of it all that has a unit of it stays, but it is %v", got)
	}
	if got, want := Drop(h, 16, 10), (hist.Hist{K: 4, Levels: [][]api.Span{alike(3, 9)}}); !equal(got, want) {
		t.Errorf("it is %v, want %v", got, want)
	}
}

// P7.1: of those without a bucket, whatever the front, and R2.
func TestDropOfEmpty(t *testing.T) {
	for _, k := range ks() {
		for _, h := range []hist.Hist{made(t, k), {K: k, Gen: 3}, {K: k, Levels: [][]api.Span{}}} {
			for _, front := range []uint64{0, 1, 10, api.MaxTick, math.MaxUint64} {
				for _, window := range windows() {
					if got := Drop(h, front, window); got.K != k || got.Gen != h.Gen || len(got.Levels) != 0 {
						t.Errorf("Drop(%v, %d, %d) is %v", h, front, window, got)
					}
				}
			}
		}
	}
}

// P7.1: held against each bucket for itself.
func TestDropByBuckets(t *testing.T) {
	eachDrop(t, func(h hist.Hist, front, window uint64) {
		if got, want := Drop(h, front, window), filtered(h, front, window); !equal(got, want) || !hist.Same(got, want) {
			t.Fatalf("Drop(%v, %d, %d) is %v, want %v", h, front, window, got, want)
		}
	})
}

// P7.1: there is no level behind the last one that has a bucket.
func TestDropLeavesNoEmptyLevel(t *testing.T) {
	eachDrop(t, func(h hist.Hist, front, window uint64) {
		got := Drop(h, front, window)
		for i, l := range got.Levels {
			if len(l) == 0 {
				t.Fatalf("Drop(%v, %d, %d) is %v: nothing is on the level %d", h, front, window, got, i)
			}
		}
		if last, ok := hist.Last(h); ok && Old(last, front, window) && len(got.Levels) != 0 {
			t.Fatalf("Drop(%v, %d, %d) is %v, but all is old", h, front, window, got)
		}
	})
}

// P7.1, R7: K and Gen stay, also where nothing else does.
func TestDropKeepsKAndGen(t *testing.T) {
	for _, k := range ks() {
		for gen := range api.MaxGen + 1 {
			h := made(t, k, units(70)...)
			h.Gen = gen
			for _, front := range []uint64{0, 20, 50, 79, 80, math.MaxUint64} {
				if got := Drop(h, front, 10); got.K != k || got.Gen != gen {
					t.Errorf("of K %d and Gen %d it is one of %d and %d", k, gen, got.K, got.Gen)
				}
			}
		}
	}
}

// P7.2: what stays is as it was, in its turn: the last ones of all buckets, on their levels; nothing of it is old, and all that went is.
func TestWhatStays(t *testing.T) {
	eachDrop(t, func(h hist.Hist, front, window uint64) {
		got := Drop(h, front, window)
		for i, l := range got.Levels {
			if !slices.Equal(l, h.Levels[i][len(h.Levels[i])-len(l):]) || i < len(got.Levels)-1 && len(l) != len(h.Levels[i]) {
				t.Fatalf("Drop(%v, %d, %d) is %v: the level %d is another one", h, front, window, got, i)
			}
		}
		was, stay := inTurn(h), inTurn(got)
		went := was[:len(was)-len(stay)]
		if !slices.Equal(was[len(went):], stay) {
			t.Fatalf("Drop(%v, %d, %d) is %v: not in turn", h, front, window, got)
		}
		for _, b := range stay {
			if wholeOld(b.To, front, window) {
				t.Fatalf("Drop(%v, %d, %d) is %v: %v is old", h, front, window, got, b)
			}
		}
		for _, b := range went {
			if !wholeOld(b.To, front, window) {
				t.Fatalf("Drop(%v, %d, %d) is %v: %v isn't old", h, front, window, got, b)
			}
		}
		last, ok := hist.Last(h)
		if now, still := hist.Last(got); still && now != last || still != (ok && !wholeOld(last, front, window)) {
			t.Fatalf("Drop(%v, %d, %d) is %v: the last tick is %d, %v", h, front, window, got, now, still)
		}
	})
}

// P7.2: dropped by two fronts, in either turn, it is as dropped by the later one; and twice by one as once.
func TestDropTwice(t *testing.T) {
	for _, k := range []int{2, 3, 9} {
		for _, stream := range streams() {
			h := made(t, k, stream...)
			for _, window := range []uint64{0, 10, 1 << 63} {
				all := fronts(h, window)
				if len(all) > 60 {
					all = all[len(all)-60:]
				}
				for _, a := range all {
					for _, b := range all {
						if got, want := Drop(Drop(h, a, window), b, window), Drop(h, max(a, b), window); !equal(got, want) {
							t.Fatalf("of %v and the window %d, dropped by %d, and then by %d, it is %v, want %v", h, window, a, b, got, want)
						}
					}
				}
			}
		}
	}
}

// checkShape tells what is wrong, if a histogram hasn't the shape of chapter 6.
func checkShape(t *testing.T, h hist.Hist) {
	t.Helper()
	var ahead uint64
	for i, l := range slices.Backward(h.Levels) {
		least := level.Least(h.K, i)
		if i == len(h.Levels)-1 {
			least = 1
		}
		if len(l) < least || len(l) > level.Most(h.K, i) {
			t.Fatalf("of K %d the level %d of %d has %d buckets", h.K, i, len(h.Levels), len(l))
		}
		for _, b := range l {
			if b.From > b.To || b.From < ahead || i == 0 && b.From != b.To {
				t.Fatalf("in %v %v of the level %d stands behind %d", h, b, i, ahead)
			}
			ahead = b.To
		}
	}
}

// P7.2: what stays keeps the shape, and so it does when more comes to it, and is dropped again.
func TestShapeStays(t *testing.T) {
	eachHist(t, func(h hist.Hist) {
		for _, front := range fronts(h, 10) {
			got := Drop(h, front, 10)
			checkShape(t, got)
			last, _ := hist.Last(got)
			for _, weight := range []uint64{1, 2, 77, 1 << 30} {
				tick := min(last+4, api.MaxTick)
				more := added(t, got, come{tick, weight})
				checkShape(t, more)
				if hist.Total(more) != hist.Total(got)+weight {
					t.Fatalf("to %v came %d, but it is %v", got, weight, more)
				}
				checkShape(t, Drop(more, tick+9, 10))
				if end := Drop(more, tick+10, 10); len(end.Levels) != 0 {
					t.Fatalf("all of %v is old, but %v stays", more, end)
				}
			}
		}
	})
}

// P7.2: one from which all that is old is dropped at each step goes on, as the shape asks, and always has all that isn't old.
func TestDropAtEachStep(t *testing.T) {
	for _, k := range ks() {
		for _, window := range []uint64{1, 2, 7, 100} {
			h := made(t, k)
			for tick := range uint64(600) {
				h = Drop(added(t, h, come{tick, tick%5 + 1}), tick, window)
				checkShape(t, h)
				var young uint64
				for back := range min(window, tick+1) {
					young += (tick-back)%5 + 1
				}
				if hist.Total(h) < young {
					t.Fatalf("of K %d, the window %d and the tick %d it is %v, but %d came that isn't old", k, window, tick, h, young)
				}
				for _, b := range inTurn(h) {
					if b.To+window <= tick {
						t.Fatalf("of K %d, the window %d and the tick %d %v is old", k, window, tick, b)
					}
				}
			}
		}
	}
}

// P7.2: one of which nothing is left takes any tick, as a new one does.
func TestNothingLeftBeginsAnew(t *testing.T) {
	for _, k := range ks() {
		for _, stream := range streams() {
			got := Drop(made(t, k, stream...), math.MaxUint64, 10)
			if !hist.Same(got, made(t, k)) || hist.Total(got) != 0 {
				t.Fatalf("it is %v", got)
			}
			if got, want := added(t, got, come{0, 99}), made(t, k, come{0, 99}); !equal(got, want) {
				t.Fatalf("it is %v, want %v", got, want)
			}
		}
	}
}

// roomy is a histogram with room behind its levels, and behind each one's buckets.
func roomy(h hist.Hist) hist.Hist {
	stray := s(66, 66, 67, 67, 68, 68)
	var all [][]api.Span
	for _, l := range h.Levels {
		all = append(all, slices.Concat(l, stray)[:len(l)])
	}
	h.Levels = append(all, stray, stray, stray)[:len(all)]
	return h
}

// whole are all buckets of a histogram, and of the room behind it: a copy of them.
func whole(h hist.Hist) [][]api.Span {
	var all [][]api.Span
	for _, l := range h.Levels[:cap(h.Levels)] {
		all = append(all, slices.Clone(l[:cap(l)]))
	}
	return all
}

// R3: what is handed in stays as it is, and so does the room behind it; also if what was told goes on.
func TestLeavesWhatIsHandedIn(t *testing.T) {
	eachHist(t, func(h hist.Hist) {
		h = roomy(h)
		before, many := whole(h), len(h.Levels)
		for _, window := range windows() {
			for i, front := range fronts(h, window) {
				got := Drop(h, front, window)
				if i%7 == 0 {
					Drop(added(t, got, come{api.MaxTick, 5}), math.MaxUint64, 9)
				}
			}
		}
		if after := whole(h); !sameLevels(before, after) || len(h.Levels) != many {
			t.Fatalf("it was %v, and is %v", before, after)
		}
	})
}

// R3, R4: what was told before stays as it is, and the room behind it too, whatever becomes of it and of what it came from.
func TestLeavesWhatWasTold(t *testing.T) {
	for _, k := range []int{2, 3, 9} {
		for _, stream := range streams() {
			var told []hist.Hist
			var before [][][]api.Span
			keep := func(h hist.Hist) hist.Hist {
				told, before = append(told, h), append(before, whole(h))
				return h
			}
			h := keep(roomy(made(t, k, stream...)))
			all := fronts(h, 10)
			for i, front := range all {
				got := keep(Drop(h, front, 10))
				keep(Drop(got, all[len(all)-1-i], 10))
				more := keep(added(t, got, come{api.MaxTick, 4}))
				keep(Drop(more, front+1, 10))
				if want := filtered(more, front+3, 10); !equal(keep(Drop(more, front+3, 10)), want) {
					t.Fatalf("of %v and the front %d it is not %v", more, front+3, want)
				}
			}
			for i, h := range told {
				if after := whole(h); !sameLevels(before[i], after) {
					t.Fatalf("of K %d one was %v, and is %v", k, before[i], after)
				}
			}
		}
	}
}

// P1: of histograms that were never made no call panics either, and each ends.
func TestOfHistsThatWereNotMade(t *testing.T) {
	great := slices.Repeat([][]api.Span{s(9, 3, math.MaxUint64, 5, 5, math.MaxUint64)}, 200)
	for _, k := range []int{math.MinInt, -1, 0, 1, 2, 1025, math.MaxInt} {
		for _, l := range [][][]api.Span{nil, {nil}, {nil, nil, s(1, 2)}, {s(1, 2), nil}, {nil, {}, nil}, {alike(5000, 7), alike(5000, 6)}, {s(1, 1), s(9, 9)}, great} {
			h := hist.Hist{K: k, Gen: -7, Levels: l}
			for _, front := range []uint64{0, 1, 12, 15, math.MaxUint64} {
				for _, window := range windows() {
					if got := Drop(h, front, window); got.K != k || got.Gen != -7 || len(got.Levels) > len(l) {
						t.Errorf("Drop(%v, %d, %d) is %v", h, front, window, got)
					}
				}
			}
		}
	}
}
