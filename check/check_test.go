package check

import (
	"math"
	"math/big"
	"slices"
	"testing"

	"skylight/api"
	"skylight/expiry"
	"skylight/hist"
	"skylight/level"
)

// come is weight of a tick.
type come struct{ tick, weight uint64 }

// s is buckets by their From and To.
func s(ticks ...uint64) []api.Span {
	var l []api.Span
	for pair := range slices.Chunk(ticks, 2) {
		l = append(l, api.Span{From: pair[0], To: pair[1]})
	}
	return l
}

// of is a histogram of these levels.
func of(k int, levels ...[]api.Span) hist.Hist { return hist.Hist{K: k, Levels: levels} }

// made is a histogram to which some came.
func made(t *testing.T, k int, all ...come) hist.Hist {
	t.Helper()
	h, e := hist.New(k)
	if e != api.OK {
		t.Fatalf("hist.New(%d) tells %d", k, e)
	}
	return added(t, h, all...)
}

// added is a histogram to which some more came.
func added(t *testing.T, h hist.Hist, all ...come) hist.Hist {
	t.Helper()
	for _, c := range all {
		next, e := hist.Add(h, c.tick, c.weight)
		if e != api.OK {
			t.Fatalf("hist.Add(.., %d, %d) tells %d", c.tick, c.weight, e)
		}
		h = next
	}
	return h
}

// shaped is a histogram with so many buckets on its levels, the lowest first: ticks rise by ten from bucket to bucket, and each above level 0 is five ticks long, so that only how many there are may be wrong of it.
func shaped(k int, sizes ...int) hist.Hist {
	h := hist.Hist{K: k, Levels: make([][]api.Span, len(sizes))}
	tick := uint64(100)
	for i, size := range slices.Backward(sizes) {
		for range size {
			b := api.Span{From: tick, To: tick + 5}
			if i == 0 {
				b.To = b.From
			}
			h.Levels[i] = append(h.Levels[i], b)
			tick += 10
		}
	}
	return h
}

// leasts are so many levels' least sizes: level.Least, and one bucket on the last one.
func leasts(k, levels int) []int {
	var all []int
	for i := range levels {
		all = append(all, level.Least(k, i))
	}
	if levels > 0 {
		all[levels-1] = 1
	}
	return all
}

// with is a list of sizes with another one at a place.
func with(sizes []int, i, size int) []int {
	out := slices.Clone(sizes)
	out[i] = size
	return out
}

// copied is a histogram that shares no bucket with the one that is given.
func copied(h hist.Hist) hist.Hist {
	out := hist.Hist{K: h.K, Gen: h.Gen}
	for _, l := range h.Levels {
		out.Levels = append(out.Levels, slices.Clone(l))
	}
	return out
}

// ks are numbers of k: the least and the greatest one, odd and even ones.
func ks() []int { return []int{api.MinK, 3, 4, 5, 8, 9, 31, 1023, api.MaxK} }

// depth is how many levels a histogram of a k may have at most, by its least sizes: 52 of 2 alone, and fewer of finer ones.
func depth(k int) int {
	for n := 0; ; n++ {
		if total(shaped(k, leasts(k, n+1)...)).Cmp(big.NewInt(api.MaxTotal)) > 0 {
			return n
		}
	}
}

// units are a unit at each of the ticks 1 to many.
func units(many uint64) []come {
	var all []come
	for i := range many {
		all = append(all, come{i + 1, 1})
	}
	return all
}

// streams are weights one behind the other, by rising ticks: units, several of one tick, ticks that are skipped, weights of all sizes, the least and the greatest tick.
func streams() [][]come {
	all := [][]come{
		nil,
		{{0, 1}},
		{{0, 9}, {1, 1}},
		{{7, 1}, {7, 2}, {9, 40}},
		{{0, 5001}, {api.MaxTick - 1, 77}, {api.MaxTick, 3}},
		{{3, 1 << 51}, {8, 1 << 40}, {9, 12345}, {30, 1}},
		{{4, 1}, {5, api.MaxTotal - 1}},
		{{4, 1}, {5, api.MaxTotal - 2}, {6, 1}},
		{{5, api.MaxTotal}},
		{{api.MaxTick, api.MaxTotal}},
	}
	var mixed, growing, rising, falling []come
	for i := range uint64(70) {
		mixed = append(mixed, come{3 * (i / 2), i*i%23 + 1})
		growing = append(growing, come{1<<40 + i*i, i + 1})
	}
	for i := range uint64(50) {
		rising = append(rising, come{10 + 2*i, 1<<i + i%2})
		falling = append(falling, come{10 + 3*i, 1<<(50-i) - i%2})
	}
	return append(all, units(70), units(3000), mixed, growing, rising, falling)
}

// eachHist calls with histograms of each k and stream, and with what came.
func eachHist(t *testing.T, do func(h hist.Hist, all []come)) {
	t.Helper()
	for _, k := range ks() {
		for _, stream := range streams() {
			do(made(t, k, stream...), stream)
		}
	}
}

// inLine are all buckets of a histogram, the oldest first.
func inLine(h hist.Hist) []api.Span {
	var all []api.Span
	for _, l := range slices.Backward(h.Levels) {
		all = append(all, l...)
	}
	return all
}

// total is all buckets' units, as a whole number.
func total(h hist.Hist) *big.Int {
	all := new(big.Int)
	for i, l := range h.Levels {
		n := big.NewInt(int64(len(l)))
		all.Add(all, n.Lsh(n, uint(i)))
	}
	return all
}

// plain is what Hist should tell, each thing asked for itself.
func plain(h hist.Hist) api.Errno {
	if h.K < 2 || h.K > 1024 || h.Gen < 0 || h.Gen > 4 {
		return api.ErrConf
	}
	wrong := len(h.Levels) > 52
	for i, l := range h.Levels {
		most := (h.K+1)/2 + 1
		if i == 0 {
			most = h.K + 1
		}
		last := i+1 == len(h.Levels)
		wrong = wrong || len(l) == 0 || len(l) > most || !last && len(l) < most-1
	}
	line := inLine(h)
	for i, b := range line {
		wrong = wrong || b.From > b.To || b.To > 1<<63-1 || i > 0 && b.From < line[i-1].To
	}
	if len(h.Levels) > 0 {
		for _, b := range h.Levels[0] {
			wrong = wrong || b.From != b.To
		}
	}
	if wrong || total(h).Cmp(big.NewInt(1<<52)) > 0 {
		return api.ErrForm
	}
	return api.OK
}

// ask tells what is wrong, if Hist doesn't tell what it should.
func ask(t *testing.T, what string, h hist.Hist, want api.Errno) {
	t.Helper()
	if e := Hist(h); e != want {
		t.Errorf("%s: of K %d, Gen %d and %d levels Hist tells %d, want %d", what, h.K, h.Gen, len(h.Levels), e, want)
	}
}

// ints are numbers at the limits of K and Gen, beyond them, and at the ends.
func ints() []int {
	return []int{math.MinInt, math.MinInt + 1, -1025, -2, -1, 0, 1, 2, 3, 4, 5, 6, 1023, 1024, 1025, 1026, 1 << 31, 1 << 32, 1<<32 + 2, 1<<62 + 2, math.MaxInt - 1, math.MaxInt}
}

// The example of the chapter.
func TestExample(t *testing.T) {
	if n := Bound(2, 0, 4); n != 9 {
		t.Errorf("Bound(2, 0, 4) is %d", n)
	}
}

// P9.1: K and Gen, at their limits and beyond them.
func TestConf(t *testing.T) {
	for _, c := range []struct {
		k, gen int
		want   api.Errno
	}{
		{1, 0, api.ErrConf},
		{2, 0, api.OK},
		{1024, 0, api.OK},
		{1025, 0, api.ErrConf},
		{0, 0, api.ErrConf},
		{-1, 0, api.ErrConf},
		{-2, 0, api.ErrConf},
		{math.MaxInt, 0, api.ErrConf},
		{math.MinInt, 0, api.ErrConf},
		{2, -1, api.ErrConf},
		{2, 4, api.OK},
		{1024, 4, api.OK},
		{2, 5, api.ErrConf},
		{2, math.MaxInt, api.ErrConf},
		{2, math.MinInt, api.ErrConf},
		{1, 5, api.ErrConf},
		{1025, -1, api.ErrConf},
	} {
		ask(t, "without levels", hist.Hist{K: c.k, Gen: c.gen}, c.want)
	}
	for _, k := range ints() {
		for _, gen := range ints() {
			want := api.OK
			if k < 2 || k > 1024 || gen < 0 || gen > 4 {
				want = api.ErrConf
			}
			ask(t, "without levels", hist.Hist{K: k, Gen: gen}, want)
			// One unit may be whatever K is.
			ask(t, "of one unit", hist.Hist{K: k, Gen: gen, Levels: [][]api.Span{s(7, 7)}}, want)
		}
	}
}

// P9.1: an odd K or Gen is told ahead of an odd form.
func TestConfAheadOfForm(t *testing.T) {
	for what, levels := range map[string][][]api.Span{
		"an empty level":       {nil},
		"too many levels":      shaped(2, leasts(2, 53)...).Levels,
		"far too many levels":  make([][]api.Span, 1000),
		"too many buckets":     {slices.Repeat(s(7, 7), 2000)},
		"a From above its To":  {s(8, 7)},
		"a bucket of level 0":  {s(7, 8)},
		"a tick that is above": {s(1<<63, 1<<63)},
		"out of turn":          {s(7, 7, 6, 6)},
		"too much":             shaped(2, with(leasts(2, 52), 0, 3)...).Levels,
	} {
		for _, c := range []hist.Hist{{K: 1}, {K: 0}, {K: -1}, {K: 1025}, {K: math.MaxInt}, {K: math.MinInt}, {K: 2, Gen: -1}, {K: 2, Gen: 5}, {K: 1, Gen: 5}, {K: 2, Gen: math.MinInt}} {
			c.Levels = levels
			ask(t, what, c, api.ErrConf)
		}
		for gen := range 5 {
			ask(t, what, hist.Hist{K: 2, Gen: gen, Levels: levels}, api.ErrForm)
		}
	}
}

// P9.1, R2: without a level, nil and empty.
func TestWithoutLevels(t *testing.T) {
	for _, k := range ks() {
		for gen := range 5 {
			ask(t, "nil", hist.Hist{K: k, Gen: gen}, api.OK)
			ask(t, "empty", hist.Hist{K: k, Gen: gen, Levels: [][]api.Span{}}, api.OK)
			ask(t, "empty, with room", hist.Hist{K: k, Gen: gen, Levels: make([][]api.Span, 0, 3)}, api.OK)
		}
	}
}

// P9.1: as many levels as may be, one more, and many more; of units beyond 64 bits, too, also where these are few modulo 2^64.
func TestLevels(t *testing.T) {
	ask(t, "52 levels", shaped(2, leasts(2, 52)...), api.OK)
	for _, n := range []int{53, 54, 60, 63, 64, 65, 66, 80, 128, 129, 1000, 70000} {
		ask(t, "too many levels", shaped(2, leasts(2, n)...), api.ErrForm)
		ask(t, "too many levels, all empty", hist.Hist{K: 2, Levels: make([][]api.Span, n)}, api.ErrForm)
		last := make([][]api.Span, n)
		last[n-1] = s(3, 4)
		ask(t, "too many levels, all empty but the last one", hist.Hist{K: 2, Levels: last}, api.ErrForm)
	}
	if h := shaped(2, leasts(2, 64)...); hist.Total(h) != 0 {
		t.Errorf("64 levels don't wrap just to 0, but to %d", hist.Total(h))
	}
	for _, k := range ks() {
		n := depth(k)
		if n > 52 || k == 2 && n != 52 {
			t.Errorf("of K %d %d levels may be", k, n)
		}
		for i := 1; i <= n; i++ {
			ask(t, "as many as may be", shaped(k, leasts(k, i)...), api.OK)
		}
		for i := n + 1; i <= 70; i++ {
			ask(t, "too many", shaped(k, leasts(k, i)...), api.ErrForm)
		}
	}
}

// P9.1: a level without a bucket, nil and empty, at each place.
func TestEmptyLevels(t *testing.T) {
	for _, k := range ks() {
		for _, n := range []int{1, 2, 3, 7, 30} {
			for i := range n {
				for _, none := range [][]api.Span{nil, {}, make([]api.Span, 0, 5)} {
					h := shaped(k, leasts(k, n)...)
					h.Levels[i] = none
					ask(t, "an empty level", h, api.ErrForm)
				}
			}
			ask(t, "one more, without a bucket", hist.Hist{K: k, Levels: append(shaped(k, leasts(k, n)...).Levels, nil)}, api.ErrForm)
			ask(t, "none has a bucket", hist.Hist{K: k, Levels: make([][]api.Span, n)}, api.ErrForm)
		}
	}
}

// P9.1: as many buckets as a level may have, and as it must, at each place, and one more and one less.
func TestSizes(t *testing.T) {
	for _, k := range ks() {
		for _, n := range []int{1, 2, 3, 8, 20} {
			for i := range n {
				sizes, most, least := leasts(k, n), level.Most(k, i), level.Least(k, i)
				ask(t, "most", shaped(k, with(sizes, i, most)...), api.OK)
				ask(t, "one more than most", shaped(k, with(sizes, i, most+1)...), api.ErrForm)
				ask(t, "many more than most", shaped(k, with(sizes, i, 2*most+7)...), api.ErrForm)
				ask(t, "least", shaped(k, with(sizes, i, least)...), api.OK)
				want := api.ErrForm
				// One level alone, and the last one of several, may have fewer, but not none.
				if i == n-1 && least > 1 {
					want = api.OK
				}
				ask(t, "one less than least", shaped(k, with(sizes, i, least-1)...), want)
			}
			for size := 1; size <= level.Most(k, n-1); size++ {
				ask(t, "the last one", shaped(k, with(leasts(k, n), n-1, size)...), api.OK)
			}
			all := leasts(k, n)
			for i := range n {
				all[i] = level.Most(k, i)
			}
			ask(t, "all have most", shaped(k, all...), api.OK)
		}
	}
}

// P9.1, by hand: what may be of K 2 and 3.
func TestSizesByHand(t *testing.T) {
	for _, c := range []struct {
		k     int
		sizes []int
		want  api.Errno
	}{
		{2, []int{1}, api.OK},
		{2, []int{2}, api.OK},
		{2, []int{3}, api.OK},
		{2, []int{4}, api.ErrForm},
		{2, []int{1, 1}, api.ErrForm},
		{2, []int{2, 1}, api.OK},
		{2, []int{3, 1}, api.OK},
		{2, []int{4, 1}, api.ErrForm},
		{2, []int{2, 2}, api.OK},
		{2, []int{2, 3}, api.ErrForm},
		{2, []int{2, 0, 1}, api.ErrForm},
		{2, []int{2, 2, 2}, api.OK},
		{2, []int{2, 3, 1}, api.ErrForm},
		{3, []int{4}, api.OK},
		{3, []int{5}, api.ErrForm},
		{3, []int{2, 1}, api.ErrForm},
		{3, []int{3, 1}, api.OK},
		{3, []int{4, 3}, api.OK},
		{3, []int{4, 4}, api.ErrForm},
		{3, []int{3, 1, 1}, api.ErrForm},
		{3, []int{3, 2, 1}, api.OK},
		{3, []int{3, 3, 3}, api.OK},
		{3, []int{3, 3, 4}, api.ErrForm},
	} {
		ask(t, "by hand", shaped(c.k, c.sizes...), c.want)
	}
}

// P9.1: ticks, by hand.
func TestTicks(t *testing.T) {
	const last, most = api.MaxTick, math.MaxUint64
	for _, c := range []struct {
		what string
		h    hist.Hist
		want api.Errno
	}{
		{"the tick 0", of(2, s(0, 0)), api.OK},
		{"all of the tick 0", of(2, s(0, 0, 0, 0), s(0, 0)), api.OK},
		{"rising", of(2, s(3, 3, 4, 4, 5, 5)), api.OK},
		{"falling", of(2, s(4, 4, 3, 3)), api.ErrForm},
		{"falling, the third one", of(2, s(4, 4, 5, 5, 4, 4)), api.ErrForm},
		{"From above To, level 0", of(2, s(4, 3)), api.ErrForm},
		{"From below To, level 0", of(2, s(3, 4)), api.ErrForm},
		{"From below To, level 0, behind another one", of(2, s(3, 3, 3, 4)), api.ErrForm},
		{"From below To, level 0, ahead of another one", of(2, s(3, 4, 4, 4)), api.ErrForm},
		{"From below To, level 0, all of them 0", of(2, s(0, 1)), api.ErrForm},
		{"From above To, level 1", of(2, s(5, 5, 6, 6), s(2, 1)), api.ErrForm},
		{"From is To, level 1", of(2, s(5, 5, 6, 6), s(2, 2)), api.OK},
		{"From above To, level 1, behind another one", of(2, s(5, 5, 6, 6), s(1, 2, 4, 3)), api.ErrForm},
		{"From is the To ahead, level 0", of(2, s(3, 3, 3, 3)), api.OK},
		{"From is the To ahead, level 1", of(2, s(9, 9, 9, 9), s(1, 3, 3, 5)), api.OK},
		{"From is one below the To ahead, level 1", of(2, s(9, 9, 9, 9), s(1, 3, 2, 5)), api.ErrForm},
		{"From is the To ahead, on the level above", of(2, s(3, 3, 4, 4), s(1, 3)), api.OK},
		{"From is one below the To ahead, on the level above", of(2, s(3, 3, 4, 4), s(1, 4)), api.ErrForm},
		{"from level 2 to level 1", of(2, s(9, 9, 9, 9), s(5, 6), s(1, 5)), api.OK},
		{"from level 2 to level 1, one below", of(2, s(9, 9, 9, 9), s(5, 6), s(1, 6)), api.ErrForm},
		{"the lowest level is the oldest", of(2, s(1, 1, 2, 2), s(3, 4)), api.ErrForm},
		{"2^63 less 1, level 0", of(2, s(last, last)), api.OK},
		{"2^63, level 0", of(2, s(last+1, last+1)), api.ErrForm},
		{"2^63, level 0, its To alone", of(2, s(last, last+1)), api.ErrForm},
		{"2^64 less 1, level 0", of(2, s(most, most)), api.ErrForm},
		{"2^64 less 1, behind another one", of(2, s(5, 5, most, most)), api.ErrForm},
		{"2^63, the From alone", of(2, s(last+1, last)), api.ErrForm},
		{"2^64 less 1, the From alone", of(2, s(most, 0)), api.ErrForm},
		{"2^63 less 1, level 1", of(2, s(last, last, last, last), s(0, last)), api.OK},
		{"2^63, level 1", of(2, s(last, last, last, last), s(0, last+1)), api.ErrForm},
		{"2^63 on all levels", of(2, s(last+1, last+1, last+1, last+1), s(last+1, last+1)), api.ErrForm},
		{"2^63 from level 1 on", of(2, s(last+1, last+1, last+1, last+1), s(0, last+1)), api.ErrForm},
		{"2^64 less 1 from level 1 on", of(2, s(most, most, most, most), s(0, most)), api.ErrForm},
		{"the oldest one is 0 to 0, and the last one the greatest", of(2, s(last, last, last, last), s(0, 0)), api.OK},
	} {
		ask(t, c.what, c.h, c.want)
	}
}

// P9.1: each bucket of each level, its ticks set to just what may be, and beyond it.
func TestTicksOfEachBucket(t *testing.T) {
	for _, k := range []int{2, 3, 5, 8} {
		start := shaped(k, level.Most(k, 0), level.Most(k, 1), level.Least(k, 2), level.Most(k, 3), 2)
		ask(t, "as it is", start, api.OK)
		for i, l := range start.Levels {
			for j, b := range l {
				ahead, behind := b.From-10, b.To+10
				if at := slices.Index(inLine(start), b); at > 0 {
					ahead = inLine(start)[at-1].To
				}
				for _, c := range []api.Span{
					{From: ahead, To: b.To}, {From: ahead - 1, To: b.To}, {From: b.To, To: b.To}, {From: b.To + 1, To: b.To}, {From: b.From, To: b.From - 1},
					{From: b.From, To: behind - 5}, {From: b.From, To: behind}, {From: b.From, To: behind + 1}, {From: behind, To: behind}, {From: behind + 1, To: behind + 1},
					{From: ahead, To: ahead}, {From: ahead - 1, To: ahead - 1}, {From: 0, To: 0}, {From: b.From, To: api.MaxTick}, {From: b.From, To: 1 << 63}, {From: b.From, To: math.MaxUint64},
					{From: api.MaxTick, To: api.MaxTick}, {From: 1 << 63, To: 1 << 63}, {From: math.MaxUint64, To: math.MaxUint64}, {From: math.MaxUint64, To: b.To}, {From: 0, To: math.MaxUint64},
				} {
					h := copied(start)
					h.Levels[i][j] = c
					ask(t, "another bucket", h, plain(h))
				}
				h := copied(start)
				h.Levels[i][j] = api.Span{From: b.To + 1, To: b.To}
				ask(t, "a From above its To", h, api.ErrForm)
				h.Levels[i][j] = api.Span{From: b.From, To: math.MaxUint64}
				ask(t, "a To of 2^64 less 1", h, api.ErrForm)
			}
		}
	}
}

// P9.1: from a bucket to the next one, on each level and from each level to the one below, From is just the To ahead, and one below it.
func TestTurns(t *testing.T) {
	for _, k := range []int{2, 3, 5, 8} {
		start := shaped(k, level.Most(k, 0), level.Most(k, 1), level.Most(k, 2), level.Most(k, 3))
		for i, l := range start.Levels {
			for j := range l {
				h := copied(start)
				b := &h.Levels[i][j]
				var ahead *api.Span
				switch {
				case j > 0:
					ahead = &h.Levels[i][j-1]
				case i+1 < len(h.Levels):
					above := h.Levels[i+1]
					ahead = &above[len(above)-1]
				default:
					continue
				}
				// The one ahead is made one of one tick, so that it may stand on level 0, too.
				*ahead = api.Span{From: b.From, To: b.From}
				ask(t, "From is the To ahead", h, api.OK)
				*ahead = api.Span{From: b.From + 1, To: b.From + 1}
				ask(t, "From is one below the To ahead", h, api.ErrForm)
			}
		}
	}
}

// P9.1: on level 0 each bucket has one tick, whatever stands behind it or ahead.
func TestOneTickOnLevel0(t *testing.T) {
	for _, k := range ks() {
		for _, n := range []int{1, 2, 5} {
			start := shaped(k, with(leasts(k, n), 0, level.Most(k, 0))...)
			for j := range start.Levels[0] {
				for _, more := range []uint64{1, 2, 9, 10} {
					h := copied(start)
					h.Levels[0][j].To += more
					ask(t, "a later To", h, api.ErrForm)
					h = copied(start)
					h.Levels[0][j].From -= min(more, 5)
					ask(t, "an earlier From", h, api.ErrForm)
				}
			}
		}
	}
}

// P9.1: a total of just 2^52, and above it.
func TestTotal(t *testing.T) {
	for _, c := range []struct {
		what  string
		sizes []int
		total uint64
		want  api.Errno
	}{
		{"just 2^52", leasts(2, 52), 1 << 52, api.OK},
		{"one more, on level 0", with(leasts(2, 52), 0, 3), 1<<52 + 1, api.ErrForm},
		{"two more, on level 1", with(leasts(2, 52), 1, 2), 1<<52 + 2, api.ErrForm},
		{"one more bucket on the last level", with(leasts(2, 52), 51, 2), 1<<52 + 1<<51, api.ErrForm},
		{"51 levels, just half", leasts(2, 51), 1 << 51, api.OK},
		{"51 levels, the last one twice", with(leasts(2, 51), 50, 2), 1<<51 + 1<<50, api.OK},
		{"51 levels, all twice, and three on level 0", append([]int{3}, slices.Repeat([]int{2}, 50)...), 1<<52 - 1, api.OK},
	} {
		h := shaped(2, c.sizes...)
		if hist.Total(h) != c.total {
			t.Errorf("%s: it is %d", c.what, hist.Total(h))
		}
		ask(t, c.what, h, c.want)
	}
	for _, k := range ks() {
		for _, d := range []uint64{0, 1, 2, 3, 1000, 1 << 40} {
			h := made(t, k, come{5, api.MaxTotal - d})
			ask(t, "made", h, api.OK)
			// Where there is room on level 0, units come to it by hand, until it is too much.
			for len(h.Levels[0]) < level.Most(k, 0) {
				h = copied(h)
				h.Levels[0] = append(h.Levels[0], api.Span{From: 5, To: 5})
				ask(t, "one more", h, plain(h))
			}
		}
		for n := depth(k); n <= 52; n++ {
			sizes := leasts(k, n)
			for i := range sizes {
				sizes[i] = level.Most(k, i)
				h := shaped(k, sizes...)
				ask(t, "more and more", h, plain(h))
			}
		}
	}
}

// P9.1: units that are more than 64 bits bear, and few modulo 2^64: one thing or another is wrong of them.
func TestTotalBeyond64Bits(t *testing.T) {
	// On level 51 so many buckets are just 2^64 units.
	h := shaped(2, with(leasts(2, 52), 51, 1<<13)...)
	if hist.Total(h) > api.MaxTotal {
		t.Errorf("it doesn't wrap: %d", hist.Total(h))
	}
	ask(t, "2^64 on level 51", h, api.ErrForm)
	for _, k := range ks() {
		for _, n := range []int{53, 63, 64, 65, 66, 100, 200} {
			sizes := leasts(k, n)
			ask(t, "least", shaped(k, sizes...), api.ErrForm)
			for i := range sizes {
				sizes[i] = level.Most(k, i)
			}
			ask(t, "most", shaped(k, sizes...), api.ErrForm)
		}
		for i := range 53 {
			// So many buckets are 2^64 units on each level; those of a low one would be too many.
			if i < 45 {
				continue
			}
			ask(t, "2^64 of one level", shaped(k, with(leasts(k, 53), i, 1<<(64-i))...), api.ErrForm)
			ask(t, "2^64 of the last level", shaped(k, with(leasts(k, i+1), i, 1<<(64-i))...), api.ErrForm)
		}
	}
}

// nearby are histograms of which one thing is another than of the one that is given.
func nearby(h hist.Hist) []hist.Hist {
	var all []hist.Hist
	for i, l := range h.Levels {
		for j := range l {
			for _, change := range []func(b *api.Span){
				func(b *api.Span) { b.From++ }, func(b *api.Span) { b.From-- }, func(b *api.Span) { b.To++ }, func(b *api.Span) { b.To-- },
				func(b *api.Span) { b.From, b.To = b.From+1, b.To+1 }, func(b *api.Span) { b.From, b.To = b.To, b.From },
				func(b *api.Span) { b.To += 1 << 63 }, func(b *api.Span) { *b = api.Span{} },
			} {
				next := copied(h)
				change(&next.Levels[i][j])
				all = append(all, next)
			}
			next := copied(h)
			next.Levels[i] = slices.Delete(next.Levels[i], j, j+1)
			all = append(all, next)
			next = copied(h)
			next.Levels[i] = slices.Insert(next.Levels[i], j, l[j])
			all = append(all, next)
		}
		next := copied(h)
		next.Levels = slices.Delete(next.Levels, i, i+1)
		all = append(all, next)
		next = copied(h)
		next.Levels = slices.Insert(next.Levels, i, l)
		all = append(all, next)
	}
	for _, k := range []int{h.K - 1, h.K + 1, 2 * h.K, -h.K} {
		next := copied(h)
		next.K = k
		all = append(all, next)
	}
	for _, gen := range []int{-1, 1, 4, 5} {
		next := copied(h)
		next.Gen = gen
		all = append(all, next)
	}
	return all
}

// P9.1: held against each thing for itself, of histograms that were made, and of such that are nearly so.
func TestHistByEachThing(t *testing.T) {
	seen := map[api.Errno]int{}
	for _, k := range []int{2, 3, 4, 5, 9} {
		for _, stream := range streams() {
			h := made(t, k, stream...)
			for _, next := range nearby(h) {
				want := plain(next)
				if e := Hist(next); e != want {
					t.Fatalf("Hist(%v) tells %d, want %d", next, e, want)
				}
				seen[want]++
			}
		}
	}
	if len(seen) != 3 || seen[api.OK] < 500 || seen[api.ErrForm] < 500 || seen[api.ErrConf] < 100 {
		t.Errorf("the errors are seen so often: %v", seen)
	}
}

// P9.2: all levels' buckets, also of those that may not be.
func TestBuckets(t *testing.T) {
	for _, c := range []struct {
		what string
		h    hist.Hist
		want int
	}{
		{"the zero one", hist.Hist{}, 0},
		{"none, nil", hist.Hist{K: 2}, 0},
		{"none, empty", hist.Hist{K: 2, Levels: [][]api.Span{}}, 0},
		{"one", of(2, s(5, 5)), 1},
		{"one level", of(2, s(5, 5, 6, 6, 7, 7)), 3},
		{"two levels", of(2, s(9, 9, 9, 9), s(5, 6)), 3},
		{"many levels", shaped(2, leasts(2, 52)...), 53},
		{"the finest", shaped(1024, 1025, 513, 512, 7), 2057},
		{"an empty level, nil", of(2, nil), 0},
		{"an empty level, empty", of(2, []api.Span{}), 0},
		{"empty levels", of(2, nil, []api.Span{}, nil), 0},
		{"empty levels between", of(2, s(9, 9, 9, 9), nil, s(1, 2)), 3},
		{"empty levels ahead", of(2, nil, nil, s(1, 2, 3, 4)), 2},
		{"empty levels behind", of(2, s(1, 2, 3, 4), nil, nil), 2},
		{"too many levels", shaped(2, slices.Repeat([]int{3}, 100)...), 300},
		{"too many buckets", of(2, slices.Repeat(s(5, 5), 5000)), 5000},
		{"ticks that may not be", of(2, s(9, 1, 0, math.MaxUint64, math.MaxUint64, 0)), 3},
		{"a K and a Gen that may not be", hist.Hist{K: -7, Gen: 99, Levels: [][]api.Span{s(1, 1), s(0, 0)}}, 2},
		{"room behind the buckets", of(2, slices.Repeat(s(5, 5), 9)[:4]), 4},
	} {
		if n := Buckets(c.h); n != c.want {
			t.Errorf("%s: it is %d, want %d", c.what, n, c.want)
		}
	}
	eachHist(t, func(h hist.Hist, all []come) {
		if n := Buckets(h); n != len(inLine(h)) {
			t.Errorf("of K %d it is %d, but there are %d", h.K, n, len(inLine(h)))
		}
	})
}

// P9.2, by hand.
func TestBound(t *testing.T) {
	for _, c := range []struct {
		k, gen int
		weight uint64
		want   int
	}{
		{2, 0, 0, 0},
		{2, 0, 1, 3},
		{2, 0, 2, 6},
		{2, 0, 3, 6},
		{2, 0, 4, 9},
		{2, 0, 7, 9},
		{2, 0, 8, 12},
		{4, 0, 7, 15},
		{2, 1, 4, 12},
		{2, 4, 4, 21},
		{2, 4, 0, 0},
		{2, 0, 1<<52 - 1, 156},
		{2, 0, 1 << 52, 159},
		{2, 0, 1<<63 - 1, 189},
		{2, 0, 1 << 63, 192},
		{2, 0, math.MaxUint64, 192},
		{2, 4, math.MaxUint64, 204},
		{1024, 0, 0, 0},
		{1024, 0, 1, 1025},
		{1024, 0, 1 << 52, 54325},
		{1024, 0, math.MaxUint64, 65600},
		{1024, 4, math.MaxUint64, 69700},
		{1024, 4, 1, 5125},
		{1, 0, 4, 0},
		{0, 0, 4, 0},
		{-1, 0, 4, 0},
		{1025, 0, 4, 0},
		{2, -1, 4, 0},
		{2, 5, 4, 0},
		{1, 5, 4, 0},
		{math.MaxInt, 0, 4, 0},
		{math.MinInt, 0, 4, 0},
		{2, math.MaxInt, 4, 0},
		{2, math.MinInt, 4, 0},
		{math.MaxInt, math.MaxInt, math.MaxUint64, 0},
		{math.MinInt, math.MinInt, math.MaxUint64, 0},
	} {
		if n := Bound(c.k, c.gen, c.weight); n != c.want {
			t.Errorf("Bound(%d, %d, %d) is %d, want %d", c.k, c.gen, c.weight, n, c.want)
		}
	}
}

// weights are numbers at each power of two, and beside it.
func weights() []uint64 {
	all := []uint64{0, 1, 2, 3, 5, 6, 1000, math.MaxUint64}
	for i := range 64 {
		all = append(all, 1<<i-1, 1<<i, 1<<i+1)
	}
	return all
}

// P9.2: counted, half by half, of each k and gen at the limits and beyond them.
func TestBoundByHalves(t *testing.T) {
	for _, k := range append(ints(), ks()...) {
		for _, gen := range ints() {
			for _, weight := range weights() {
				want := 0
				if weight > 0 && k >= 2 && k <= 1024 && gen >= 0 && gen <= 4 {
					for left := weight; left >= 1; left /= 2 {
						want += k + 1
					}
					want += gen * (k + 1)
				}
				if n := Bound(k, gen, weight); n != want {
					t.Fatalf("Bound(%d, %d, %d) is %d, want %d", k, gen, weight, n, want)
				}
			}
		}
	}
}

// P9.3: what was made may be; Gen is set by hand here, as the buckets of a merged one come by Add, too.
func TestMadeMayBe(t *testing.T) {
	eachHist(t, func(h hist.Hist, all []come) {
		for gen := range 5 {
			h.Gen = gen
			ask(t, "made", h, api.OK)
		}
	})
}

// notOld is how much weight came that isn't old.
func notOld(all []come, front, window uint64) uint64 {
	var n uint64
	for _, c := range all {
		if !expiry.Old(c.tick, front, window) {
			n += c.weight
		}
	}
	return n
}

// checkMade tells what is wrong, if a histogram that was made may not be, or has too many buckets.
func checkMade(t *testing.T, h hist.Hist, weight uint64) {
	t.Helper()
	if e := Hist(h); e != api.OK {
		t.Fatalf("of K %d Hist tells %d", h.K, e)
	}
	if n := Buckets(h); n > Bound(h.K, 0, weight) || weight == 0 && n > 0 {
		t.Fatalf("of K %d and the weight %d there are %d buckets, but %d at most may be", h.K, weight, n, Bound(h.K, 0, weight))
	}
}

// fronts are those at which a bucket of a histogram grows old, those just ahead and behind, and the ends; of a fine one some of them.
func fronts(h hist.Hist, window uint64) []uint64 {
	all := []uint64{0, 1, window, api.MaxTick, math.MaxUint64}
	line := inLine(h)
	step := 1 + len(line)/100
	for i, b := range line {
		if i%step != 0 && i < len(line)-3 {
			continue
		}
		for _, tick := range []uint64{b.From, b.To} {
			all = append(all, tick+window-1, tick+window, tick+window+1)
		}
	}
	slices.Sort(all)
	return slices.Compact(all)
}

// P9.3: what is left of a histogram behind a Drop, of each front and window.
func TestMadeBehindDrop(t *testing.T) {
	none := 0
	eachHist(t, func(h hist.Hist, all []come) {
		checkMade(t, h, hist.Total(h))
		for _, window := range []uint64{0, 1, 2, 10, 1 << 40, math.MaxUint64} {
			for _, front := range fronts(h, window) {
				left := expiry.Drop(h, front, window)
				weight := notOld(all, front, window)
				checkMade(t, left, weight)
				if weight == 0 {
					none++
				}
			}
		}
	})
	if none < 100 {
		t.Errorf("all is old only %d times", none)
	}
}

// P9.3: at each step of a stream, where buckets are dropped in between, and more comes behind that; weights go up and down.
func TestMadeAtEachStep(t *testing.T) {
	for _, k := range ks() {
		for _, window := range []uint64{1, 2, 7, 100, 301} {
			var all []come
			h := made(t, k)
			state := uint64(k)
			front := uint64(0)
			for i := range uint64(400) {
				state = state*6364136223846793005 + 1442695040888963407
				tick := i / 3 * 2
				// Now and then nothing comes for a long while, so that all grows old.
				if i%50 < 40 {
					c := come{tick, 1 + state>>33%(1<<(i%12))}
					all, h = append(all, c), added(t, h, c)
				}
				if i%4 == 1 {
					front = tick
				}
				h = expiry.Drop(h, front, window)
				checkMade(t, h, notOld(all, front, window))
			}
		}
	}
}

// P9.3: units, one by one: all that are ever there, and what of each is left by each front.
func TestMadeOfUnits(t *testing.T) {
	for _, k := range []int{2, 3, 4, 9} {
		h := made(t, k)
		for n := range uint64(300) {
			h = added(t, h, come{n + 1, 1})
			checkMade(t, h, n+1)
			for front := uint64(0); front <= n+2; front++ {
				checkMade(t, expiry.Drop(h, front, 0), n+1-min(front, n+1))
			}
		}
	}
}

// P9.3: weight all at once, of each number of digits, up to the greatest.
func TestMadeAtOnce(t *testing.T) {
	for _, k := range ks() {
		for _, weight := range weights() {
			if weight > 0 && weight <= api.MaxTotal {
				checkMade(t, made(t, k, come{5, weight}), weight)
			}
		}
	}
}

// roomy is a histogram with the same buckets, and room behind them, so that what is written there is seen, too.
func roomy(h hist.Hist) (hist.Hist, [][]api.Span) {
	mark := api.Span{From: 1, To: 99}
	out := hist.Hist{K: h.K, Gen: h.Gen}
	var all [][]api.Span
	for _, l := range h.Levels {
		room := append(slices.Clone(l), mark, mark)
		all = append(all, room)
		out.Levels = append(out.Levels, room[:len(l)])
	}
	return out, all
}

// R3, R4: no call writes into what was handed in, and the same call tells the same.
func TestNothingIsWritten(t *testing.T) {
	var all []hist.Hist
	eachHist(t, func(h hist.Hist, _ []come) { all = append(all, h) })
	all = append(all, nearby(made(t, 3, units(70)...))...)
	all = append(all, shaped(2, leasts(2, 70)...), of(2, s(9, 1, 8, 0)), of(2, nil, s(1, 2)))
	for _, h := range all {
		given, room := roomy(h)
		_, want := roomy(h)
		list := slices.Clone(given.Levels)
		e, n := Hist(given), Buckets(given)
		if e != Hist(given) || n != Buckets(given) || e != Hist(h) || n != Buckets(h) {
			t.Fatalf("of K %d it is another one the second time", h.K)
		}
		same := slices.Equal[[]api.Span]
		if given.K != h.K || given.Gen != h.Gen || !slices.EqualFunc(given.Levels, list, same) || !slices.EqualFunc(given.Levels, h.Levels, same) || !slices.EqualFunc(room, want, same) {
			t.Fatalf("of K %d what was handed in is another one", h.K)
		}
	}
}
