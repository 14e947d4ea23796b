package estimate

import (
	"math"
	"math/big"
	"math/bits"
	"slices"
	"testing"

	"skylight/api"
	"skylight/expiry"
	"skylight/hist"
)

// come is weight of a tick.
type come struct{ tick, weight uint64 }

// call is what is asked of a histogram.
type call struct{ tick, span uint64 }

// made is a histogram to which some came.
func made(t *testing.T, k int, all ...come) hist.Hist {
	t.Helper()
	h, e := hist.New(k)
	if e != api.OK {
		t.Fatalf("hist.New(%d) tells %d", k, e)
	}
	return added(t, h, all...)
}

// added is a histogram to which some more came.
func added(t *testing.T, h hist.Hist, all ...come) hist.Hist {
	t.Helper()
	for _, c := range all {
		next, e := hist.Add(h, c.tick, c.weight)
		if e != api.OK {
			t.Fatalf("hist.Add(.., %d, %d) tells %d", c.tick, c.weight, e)
		}
		h = next
	}
	return h
}

// units are a unit at each of the ticks 1 to many.
func units(many uint64) []come {
	var all []come
	for i := range many {
		all = append(all, come{i + 1, 1})
	}
	return all
}

// whole tells whether a tick is within, by whole numbers: where the sum is carried over, it is above all of 64 bits.
func whole(of uint64, c call) bool {
	sum, carry := bits.Add64(of, c.span, 0)
	return carry > 0 || sum > c.tick
}

// came is how many units came whose tick is within.
func came(all []come, c call) uint64 {
	var n uint64
	for _, one := range all {
		if whole(one.tick, c) {
			n += one.weight
		}
	}
	return n
}

// parts is what Parts should tell: each bucket is asked for itself.
func parts(h hist.Hist, c call) (uint64, uint64) {
	var sure, cut uint64
	size := uint64(1)
	for _, l := range h.Levels {
		for _, b := range l {
			from, to := whole(b.From, c), whole(b.To, c)
			if from {
				sure += size
			}
			if to && !from {
				cut += size
			}
		}
		size *= 2
	}
	return sure, cut
}

// ks are numbers of k: the least and the greatest one, odd and even ones.
func ks() []int { return []int{api.MinK, 3, 4, 5, 8, 9, 31, 1023, api.MaxK} }

// streams are weights one behind the other, by rising ticks: units, several of one tick, ticks that are skipped, weights of all sizes, the least and the greatest tick.
func streams() [][]come {
	all := [][]come{
		nil,
		{{0, 1}},
		{{0, 9}, {1, 1}},
		{{7, 1}, {7, 2}, {9, 40}},
		{{0, 5001}, {api.MaxTick - 1, 77}, {api.MaxTick, 3}},
		{{3, 1 << 51}, {8, 1 << 40}, {9, 12345}, {30, 1}},
		{{4, 1}, {5, api.MaxTotal - 1}},
		{{5, api.MaxTotal}},
	}
	var mixed, growing, rising, falling []come
	for i := range uint64(70) {
		mixed = append(mixed, come{3 * (i / 2), i*i%23 + 1})
		growing = append(growing, come{1<<40 + i*i, i + 1})
	}
	for i := range uint64(50) {
		rising = append(rising, come{10 + 2*i, 1<<i + i%2})
		falling = append(falling, come{10 + 3*i, 1<<(50-i) - i%2})
	}
	return append(all, units(70), mixed, growing, rising, falling)
}

// edges are the ticks of all buckets' ends, and the ticks beside them.
func edges(h hist.Hist) []uint64 {
	var all []uint64
	for _, l := range h.Levels {
		for _, b := range l {
			for _, tick := range []uint64{b.From, b.To} {
				all = append(all, max(tick, 1)-1, tick, tick+1)
			}
		}
	}
	slices.Sort(all)
	return slices.Compact(all)
}

// ends are numbers at the ends of 64 bits, and some in the middle.
func ends() []uint64 {
	return []uint64{0, 1, 2, 10, 1 << 40, api.MaxSpan, api.MaxTick - 1, api.MaxTick, 1 << 63, math.MaxUint64 - 1, math.MaxUint64}
}

// calls are those that cut a histogram at each edge of a bucket, from several ticks on, and those at the ends.
func calls(h hist.Hist) []call {
	var all []call
	last, _ := hist.Last(h)
	for _, edge := range edges(h) {
		for _, tick := range []uint64{edge, last, last + 1, last + 100, math.MaxUint64} {
			if tick >= edge {
				all = append(all, call{tick, tick - edge})
			}
		}
		all = append(all, call{edge, 1}, call{edge, math.MaxUint64})
	}
	for _, tick := range ends() {
		for _, span := range ends() {
			all = append(all, call{tick, span})
		}
	}
	return all
}

// eachHist calls with histograms of each k and stream, and with what came.
func eachHist(t *testing.T, do func(h hist.Hist, all []come)) {
	t.Helper()
	for _, k := range ks() {
		for _, stream := range streams() {
			do(made(t, k, stream...), stream)
		}
	}
}

// checkBounds tells what is wrong, if the theorem doesn't hold of what is told. No product of it is too much for 64 bits, as no total is above 2^52.
func checkBounds(t *testing.T, h hist.Hist, all []come, c call) {
	t.Helper()
	n := came(all, c)
	k, of := uint64(h.K), Of(h, c.tick, c.span)
	if (k-1)*n > k*of || k*of > (k+1)*n {
		t.Fatalf("of K %d and %v %d came within, but Of is %d", k, c, n, of)
	}
	if sure, cut := Parts(h, c.tick, c.span); sure > n || sure+cut < n {
		t.Fatalf("of K %d and %v %d came within, but Parts are %d, %d", k, c, n, sure, cut)
	}
}

// The example of the chapter, and the fourth one of the whole.
func TestExample(t *testing.T) {
	h := made(t, 2, units(4)...)
	for span, want := range []uint64{0, 1, 2, 3, 4, 4} {
		if got := Of(h, 4, uint64(span)); got != want {
			t.Errorf("of the span %d it is %d, want %d", span, got, want)
		}
	}
}

// P8.1: one bucket alone, whose tick with span is below, at and above the call's tick, also where they are too much for 64 bits.
func TestWithin(t *testing.T) {
	const most = math.MaxUint64
	for _, c := range []struct {
		what           string
		at, tick, span uint64
		want           uint64
	}{
		{"one below", 4, 15, 10, 0},
		{"just that", 5, 15, 10, 0},
		{"one above", 6, 15, 10, 1},
		{"the tick itself, a span of 1", 15, 15, 1, 1},
		{"the tick ahead, a span of 1", 14, 15, 1, 0},
		{"a tick behind the call's", 16, 15, 10, 1},
		{"span 0, the tick ahead", 14, 15, 0, 0},
		{"span 0, the tick itself", 15, 15, 0, 0},
		{"span 0, the tick behind", 16, 15, 0, 1},
		{"all 0", 0, 0, 0, 0},
		{"tick 0, span 0, a later one", 1, 0, 0, 1},
		{"tick 0, span 1", 0, 0, 1, 1},
		{"the tick 0, span is tick", 0, 10, 10, 0},
		{"the tick 1, span is tick", 1, 10, 10, 1},
		{"the tick 0, span greater by one", 0, 10, 11, 1},
		{"the tick 0, span one less", 0, 10, 9, 0},
		{"together 2^64 less 2, the greatest tick", 4, most, most - 5, 0},
		{"together 2^64 less 1, the greatest tick", 5, most, most - 5, 0},
		{"together 2^64, the greatest tick", 6, most, most - 5, 1},
		{"together 2^64, tick 0", 6, 0, most - 5, 1},
		{"together 2^64 and more, a small tick", 60, 50, most - 5, 1},
		{"the greatest tick and span, of 0", 0, most, most, 0},
		{"the greatest tick and span, of 1", 1, most, most, 1},
		{"the greatest tick and span, of the last tick", api.MaxTick, most, most, 1},
		{"the greatest span", 0, most - 1, most, 1},
		{"the greatest span, tick 0", 0, 0, most, 1},
		{"the greatest tick, span 0", api.MaxTick, most, 0, 0},
		{"the greatest tick, together 2^64 less 1", api.MaxTick, most, 1 << 63, 0},
		{"the greatest tick, together 2^64", api.MaxTick, most, 1<<63 + 1, 1},
		{"one less, together 2^64 less 1", api.MaxTick, most - 1, 1 << 63, 1},
		{"the last tick, span 0", api.MaxTick, api.MaxTick, 0, 0},
		{"the last tick, span 1", api.MaxTick, api.MaxTick, 1, 1},
	} {
		h := made(t, 2, come{c.at, 1})
		sure, cut := Parts(h, c.tick, c.span)
		if of := Of(h, c.tick, c.span); sure != c.want || cut != 0 || of != c.want {
			t.Errorf("%s: of one at %d, and %d, %d, Parts are %d, %d, Of is %d", c.what, c.at, c.tick, c.span, sure, cut, of)
		}
	}
}

// P8.1: held against whole numbers.
func TestWithinByWholeNumbers(t *testing.T) {
	var all []uint64
	for _, n := range []uint64{0, 10, 1 << 32, api.MaxSpan, 1 << 63} {
		for d := range uint64(9) {
			all = append(all, n+d-4)
		}
	}
	for _, at := range all {
		if at > api.MaxTick {
			continue
		}
		h := made(t, 2, come{at, 1})
		for _, span := range all {
			sum := new(big.Int).Add(new(big.Int).SetUint64(at), new(big.Int).SetUint64(span))
			for _, tick := range all {
				var want uint64
				if sum.Cmp(new(big.Int).SetUint64(tick)) > 0 {
					want = 1
				}
				if got := Of(h, tick, span); got != want {
					t.Fatalf("of one at %d, and %d, %d, it is %d", at, tick, span, got)
				}
			}
		}
	}
}

// P8.1, worked out by hand.
func TestParts(t *testing.T) {
	// Level 0: 15, 16. Level 1: 13 to 14. Level 2: 9 to 12. Level 3: 1 to 8.
	sixteen := made(t, 2, units(16)...)
	// Level 0: 9, 10, 11. Level 1: 5 to 6, 7 to 8. Level 2: 1 to 4.
	eleven := made(t, 2, units(11)...)
	for _, c := range []struct {
		what       string
		h          hist.Hist
		tick, span uint64
		sure, cut  uint64
	}{
		{"nothing is within", sixteen, 16, 0, 0, 0},
		{"nothing is within, a later tick", sixteen, 26, 10, 0, 0},
		{"the last tick", sixteen, 16, 1, 1, 0},
		{"all of level 0", sixteen, 16, 2, 2, 0},
		{"level 1 is cut", sixteen, 16, 3, 2, 2},
		{"level 1 is within", sixteen, 16, 4, 4, 0},
		{"level 2 is cut at its To", sixteen, 16, 5, 4, 4},
		{"level 2 is cut behind its From", sixteen, 16, 7, 4, 4},
		{"level 2 is within", sixteen, 16, 8, 8, 0},
		{"the last level is cut at its To", sixteen, 16, 9, 8, 8},
		{"the last level is cut behind its From", sixteen, 16, 15, 8, 8},
		{"all is within", sixteen, 16, 16, 16, 0},
		{"all is within, a later tick", sixteen, 100, 100, 16, 0},
		{"a later tick, level 2 is cut", sixteen, 20, 10, 4, 4},
		{"an earlier tick tells what is behind it, too", sixteen, 12, 1, 4, 4},
		{"the first of level 1 is cut", eleven, 11, 6, 5, 2},
		{"the first of level 1 is within", eleven, 11, 7, 7, 0},
		{"the second of level 1 is cut", eleven, 11, 4, 3, 2},
		{"the second of level 1 is within", eleven, 11, 5, 5, 0},
		{"span greater than tick", eleven, 3, 4, 11, 0},
		{"span is tick", eleven, 3, 3, 11, 0},
		{"tick 0, span 0", eleven, 0, 0, 11, 0},
	} {
		sure, cut := Parts(c.h, c.tick, c.span)
		if sure != c.sure || cut != c.cut {
			t.Errorf("%s: Parts(%v, %d, %d) are %d, %d, want %d, %d", c.what, c.h, c.tick, c.span, sure, cut, c.sure, c.cut)
		}
		if of := Of(c.h, c.tick, c.span); of != c.sure+c.cut/2 {
			t.Errorf("%s: Of(%v, %d, %d) is %d", c.what, c.h, c.tick, c.span, of)
		}
	}
}

// P8.1: each level from level 1 on is cut once as the last one, by one unit that came ahead of all others.
func TestTheLastLevelIsCut(t *testing.T) {
	for _, k := range ks() {
		deepest := 0
		for digits := range 53 {
			weight := min(uint64(1)<<digits, api.MaxTotal-1)
			h := made(t, k, come{1, 1}, come{2, weight})
			last := len(h.Levels) - 1
			if last == 0 {
				continue
			}
			if last > deepest+1 {
				t.Fatalf("of K %d the level %d was never the last one", k, deepest+1)
			}
			deepest = last
			size := uint64(1) << last
			sure, cut := Parts(h, 2, 1)
			if sure != weight+1-size || cut != size || Of(h, 2, 1) != weight+1-size/2 {
				t.Errorf("of K %d and the weight %d, cut on the level %d, Parts are %d, %d, Of is %d", k, weight, last, sure, cut, Of(h, 2, 1))
			}
		}
		if k == api.MinK && deepest != 51 {
			t.Errorf("the greatest total reaches the level %d", deepest)
		}
	}
}

// P8.1: of one histogram each level from level 1 on is cut, by one span or another, and level 0 never.
func TestEachLevelIsCut(t *testing.T) {
	for _, k := range []int{2, 3, 4, 9} {
		h := made(t, k, units(500)...)
		seen := make([]int, len(h.Levels))
		for span := range uint64(501) {
			sure, cut := Parts(h, 500, span)
			if cut == 0 {
				continue
			}
			if bits.OnesCount64(cut) != 1 {
				t.Fatalf("of K %d and the span %d more than one bucket is cut: %d", k, span, cut)
			}
			if sure >= span || sure+cut <= span {
				t.Fatalf("of K %d and the span %d Parts are %d, %d", k, span, sure, cut)
			}
			seen[bits.TrailingZeros64(cut)]++
		}
		if seen[0] != 0 || slices.Contains(seen[1:], 0) || len(seen) < 5 {
			t.Errorf("of K %d the levels are cut so often: %v", k, seen)
		}
	}
}

// P8.1: buckets of one tick, on several levels, are within all at once.
func TestOneTickOnSeveralLevels(t *testing.T) {
	for _, k := range ks() {
		for _, weight := range []uint64{1, 8, 77, 5000, 1 << 40, api.MaxTotal} {
			h := made(t, k, come{5, weight})
			for _, c := range []call{{5, 1}, {14, 10}, {0, 0}, {4, 0}, {3, 4}} {
				if sure, cut := Parts(h, c.tick, c.span); sure != weight || cut != 0 || Of(h, c.tick, c.span) != weight {
					t.Errorf("of K %d, %d at once, and %v Parts are %d, %d", k, weight, c, sure, cut)
				}
			}
			for _, c := range []call{{5, 0}, {15, 10}, {16, 10}, {math.MaxUint64, 10}} {
				if sure, cut := Parts(h, c.tick, c.span); sure != 0 || cut != 0 || Of(h, c.tick, c.span) != 0 {
					t.Errorf("of K %d, %d at once, and %v Parts are %d, %d", k, weight, c, sure, cut)
				}
			}
		}
	}
	// The tick 6 stands on several levels beside others, and one bucket has units of the ticks 2 and 6.
	h := made(t, 4, come{2, 3}, come{6, 50}, come{9, 3})
	if !slices.Contains(h.Levels[len(h.Levels)-1], api.Span{From: 2, To: 6}) {
		t.Fatalf("it is %v", h)
	}
	size := uint64(1) << (len(h.Levels) - 1)
	for _, c := range []struct{ span, sure, cut uint64 }{{3, 3, 0}, {4, 56 - size, size}, {7, 56 - size, size}, {8, 56, 0}} {
		if sure, cut := Parts(h, 9, c.span); sure != c.sure || cut != c.cut {
			t.Errorf("of the span %d Parts are %d, %d, want %d, %d", c.span, sure, cut, c.sure, c.cut)
		}
	}
}

// P8.1: of those without a bucket, whatever is asked, and R2.
func TestOfEmpty(t *testing.T) {
	for _, k := range ks() {
		gone := expiry.Drop(made(t, k, units(9)...), 100, 10)
		for _, h := range []hist.Hist{made(t, k), gone, {K: k, Gen: 3}, {K: k, Levels: [][]api.Span{}}} {
			for _, tick := range ends() {
				for _, span := range ends() {
					if sure, cut := Parts(h, tick, span); sure != 0 || cut != 0 || Of(h, tick, span) != 0 {
						t.Errorf("Parts(%v, %d, %d) are %d, %d", h, tick, span, sure, cut)
					}
				}
			}
		}
	}
}

// P8.1: held against each bucket for itself, and Of is the first of Parts and half of the second one; a merged one is asked alike.
func TestPartsByBuckets(t *testing.T) {
	eachHist(t, func(h hist.Hist, all []come) {
		for i, c := range calls(h) {
			h.Gen = i % (api.MaxGen + 1)
			sure, cut := Parts(h, c.tick, c.span)
			if wantSure, wantCut := parts(h, c); sure != wantSure || cut != wantCut {
				t.Fatalf("of K %d and %v Parts are %d, %d, want %d, %d", h.K, c, sure, cut, wantSure, wantCut)
			}
			if of := Of(h, c.tick, c.span); of != sure+cut/2 {
				t.Fatalf("of K %d and %v Parts are %d, %d, but Of is %d", h.K, c, sure, cut, of)
			}
			if cut == 1 || bits.OnesCount64(cut) > 1 {
				t.Fatalf("of K %d and %v %d is cut: not one bucket above level 0", h.K, c, cut)
			}
		}
	})
}

// P8.1: where span is greater than tick, all is within.
func TestAllIsWithin(t *testing.T) {
	eachHist(t, func(h hist.Hist, all []come) {
		for _, tick := range append(ends(), edges(h)...) {
			if tick == math.MaxUint64 {
				continue
			}
			for _, span := range []uint64{tick + 1, math.MaxUint64} {
				if sure, cut := Parts(h, tick, span); sure != hist.Total(h) || cut != 0 {
					t.Fatalf("of K %d, %d, %d Parts are %d, %d, but all is %d", h.K, tick, span, sure, cut, hist.Total(h))
				}
			}
		}
	})
}

// P8.2: held against what really came.
func TestBounds(t *testing.T) {
	eachHist(t, func(h hist.Hist, all []come) {
		for _, c := range calls(h) {
			checkBounds(t, h, all, c)
		}
	})
}

// P8.2: at each step of a stream, so that the levels are as full as they ever are, and as empty; weights go up and down.
func TestBoundsAtEachStep(t *testing.T) {
	for _, k := range ks() {
		var all []come
		h := made(t, k)
		state := uint64(k)
		for i := range uint64(400) {
			state = state*6364136223846793005 + 1442695040888963407
			c := come{i / 3 * 2, 1 + state>>33%(1<<(i%12))}
			all, h = append(all, c), added(t, h, c)
			for span := uint64(0); span <= c.tick+2; span += 1 + span/16 {
				checkBounds(t, h, all, call{c.tick, span})
				checkBounds(t, h, all, call{c.tick + 5, span})
			}
		}
	}
}

// P8.2: units, one by one, far more than the finest histogram keeps for themselves.
func TestBoundsOfTheFinest(t *testing.T) {
	all := units(20000)
	for _, k := range []int{1023, api.MaxK} {
		h := made(t, k, all...)
		if len(h.Levels) < 4 {
			t.Fatalf("of K %d there are %d levels", k, len(h.Levels))
		}
		for span := uint64(0); span <= 20001; span += 7 {
			checkBounds(t, h, all, call{20000, span})
		}
	}
}

// P8.2: the streams are hard enough to tell: without half of the bucket that is cut, or with all of it, a bound would be broken (of K 2 and 3 only the upper one).
func TestBoundsNeedTheHalf(t *testing.T) {
	for _, k := range []int{4, 8} {
		all := units(3000)
		h := made(t, k, all...)
		low, high := false, false
		for span := range uint64(3001) {
			c := call{3000, span}
			n := came(all, c)
			sure, cut := Parts(h, c.tick, c.span)
			low = low || uint64(k-1)*n > uint64(k)*sure
			high = high || uint64(k)*(sure+cut) > uint64(k+1)*n
		}
		if !low || !high {
			t.Errorf("of K %d the stream is too easy: %v, %v", k, low, high)
		}
	}
}

// behindDrop are calls from a front on, of spans up to a window, that cut at some edges, and those at the ends.
func behindDrop(edges []uint64, front, window uint64) []call {
	var all []call
	for _, tick := range []uint64{front, front + 1, front + window/2, front + window, front + window + 1, math.MaxUint64} {
		for _, span := range []uint64{0, 1, 2, window / 2, window - 1, window} {
			if span <= window {
				all = append(all, call{tick, span})
			}
		}
		for _, edge := range edges {
			if edge <= tick && tick-edge <= window {
				all = append(all, call{tick, tick - edge})
			}
		}
	}
	return all
}

// P8.2: behind a Drop the bounds hold for ticks from its front on and spans up to its window, against all that came; and Parts are as ahead of it.
func TestBoundsBehindDrop(t *testing.T) {
	eachHist(t, func(h hist.Hist, all []come) {
		every := edges(h)
		for _, window := range []uint64{1, 2, 10, 50, 1 << 40} {
			for i, edge := range every {
				// A fine histogram has far too many buckets to be asked for each pair of edges.
				if h.K > 9 && i%17 != int(window%17) {
					continue
				}
				front := edge + window
				left := expiry.Drop(h, front, window)
				for _, c := range behindDrop(every, front, window) {
					checkBounds(t, left, all, c)
					sure, cut := Parts(left, c.tick, c.span)
					if wasSure, wasCut := Parts(h, c.tick, c.span); sure != wasSure || cut != wasCut {
						t.Fatalf("of K %d, the front %d, the window %d, and %v Parts are %d, %d, but were %d, %d", h.K, front, window, c, sure, cut, wasSure, wasCut)
					}
				}
			}
		}
	})
}

// P8.2: where buckets are dropped at each step, and more comes behind that.
func TestBoundsWithDropsBetween(t *testing.T) {
	for _, k := range ks() {
		for _, window := range []uint64{1, 2, 7, 100, 301} {
			var all []come
			h := made(t, k)
			for tick := range uint64(500) {
				// In some steps several come, and in some nothing is dropped.
				for i := range tick % 3 {
					c := come{tick, tick*tick%97*i + 1}
					all, h = append(all, c), added(t, h, c)
				}
				if tick%4 == 1 {
					h = expiry.Drop(h, tick, window)
				}
				for span := uint64(0); span <= window; span += 1 + span/8 {
					checkBounds(t, h, all, call{tick, span})
				}
				checkBounds(t, h, all, call{tick, window})
				checkBounds(t, h, all, call{tick + 1, window})
			}
		}
	}
}

// P8.3: a longer span tells as much, or more, and a later tick as much, or less.
func TestLongerAndLater(t *testing.T) {
	eachHist(t, func(h hist.Hist, all []come) {
		last, _ := hist.Last(h)
		spans := append(edges(h), ends()...)
		for _, edge := range edges(h) {
			spans = append(spans, last-min(edge, last), last+100-min(edge, last))
		}
		slices.Sort(spans)
		for _, tick := range append(ends(), last, last+1, last+100) {
			var before uint64
			for _, span := range spans {
				of := Of(h, tick, span)
				if of < before {
					t.Fatalf("of K %d and the tick %d it is %d, but the span %d tells %d", h.K, tick, before, span, of)
				}
				before = of
			}
		}
		ticks := append(edges(h), ends()...)
		slices.Sort(ticks)
		for _, span := range append(ends(), last, last/2) {
			before := hist.Total(h)
			for _, tick := range ticks {
				of := Of(h, tick, span)
				if of > before {
					t.Fatalf("of K %d and the span %d it is %d, but the tick %d tells %d", h.K, span, before, tick, of)
				}
				before = of
			}
		}
	})
}

// P8.3: tick by tick, from nothing to all and back, and each step of a longer span is as one of an earlier tick.
func TestLongerAndLaterByOne(t *testing.T) {
	for _, k := range ks() {
		h := made(t, k, units(300)...)
		for tick := range uint64(320) {
			if Of(h, tick, 0) > Of(h, max(tick, 1)-1, 0) {
				t.Fatalf("of K %d the tick %d tells more", k, tick)
			}
			for span := range uint64(320) {
				if Of(h, tick, span) > Of(h, tick, span+1) || Of(h, tick, span) < Of(h, tick+1, span) || Of(h, tick, span) != Of(h, tick+1, span+1) {
					t.Fatalf("of K %d, the tick %d and the span %d it is %d", k, tick, span, Of(h, tick, span))
				}
			}
		}
	}
}

// roomy is a histogram with the same buckets, and room behind them, so that what is written there is seen, too.
func roomy(h hist.Hist) (hist.Hist, [][]api.Span) {
	mark := api.Span{From: 1, To: 99}
	out := hist.Hist{K: h.K, Gen: h.Gen}
	var all [][]api.Span
	for _, l := range h.Levels {
		room := append(slices.Clone(l), mark, mark)
		all = append(all, room)
		out.Levels = append(out.Levels, room[:len(l)])
	}
	return out, all
}

// R3, R4: no call writes into what was handed in, and the same call tells the same.
func TestNothingIsWritten(t *testing.T) {
	eachHist(t, func(h hist.Hist, all []come) {
		h.Gen = 2
		given, room := roomy(h)
		_, want := roomy(h)
		list := slices.Clone(given.Levels)
		for _, c := range calls(h) {
			sure, cut := Parts(given, c.tick, c.span)
			of := Of(given, c.tick, c.span)
			if againSure, againCut := Parts(given, c.tick, c.span); sure != againSure || cut != againCut || of != Of(given, c.tick, c.span) {
				t.Fatalf("of K %d and %v it is another one the second time", h.K, c)
			}
		}
		if given.K != h.K || given.Gen != 2 || !hist.Same(given, h) || !slices.EqualFunc(given.Levels, list, slices.Equal[[]api.Span]) || !slices.EqualFunc(room, want, slices.Equal[[]api.Span]) {
			t.Fatalf("of K %d what was handed in is another one", h.K)
		}
	})
}

// P1: what was never made is asked without a panic, too.
func TestOfWhatWasNotMade(t *testing.T) {
	span := []api.Span{{From: 9, To: 1}, {From: math.MaxUint64, To: math.MaxUint64}, {}}
	for _, h := range []hist.Hist{{}, {K: -1, Gen: -1}, {K: 2, Levels: make([][]api.Span, 80)}, {K: 2, Levels: slices.Repeat([][]api.Span{span}, 80)}} {
		for _, tick := range ends() {
			for _, span := range ends() {
				Parts(h, tick, span)
				Of(h, tick, span)
			}
		}
	}
}
