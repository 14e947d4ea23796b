package level

import (
	"math"
	"math/big"
	"slices"
	"testing"

	"skylight/api"
)

// pushed is what Push told.
type pushed struct {
	stays, went []api.Span
	alike       uint64
}

func (p pushed) same(o pushed) bool {
	return slices.Equal(p.stays, o.stays) && slices.Equal(p.went, o.went) && p.alike == o.alike
}

// push is Push, its answer in one.
func push(l []api.Span, most int, add []api.Span, many, tick uint64) pushed {
	stays, went, alike := Push(l, most, add, many, tick)
	return pushed{stays, went, alike}
}

// oneByOne is what Push should tell, by buckets that come one by one.
func oneByOne(l []api.Span, most int, add []api.Span, many, tick uint64) pushed {
	type bucket struct {
		span   api.Span
		ofMany bool
	}
	most = max(most, 1)
	var there []bucket
	var out pushed
	come := func(b bucket) {
		there = append(there, b)
		if len(there) <= most {
			return
		}
		first, second := there[0], there[1]
		there = there[2:]
		if first.ofMany && second.ofMany {
			out.alike++
			return
		}
		out.went = append(out.went, api.Span{From: first.span.From, To: second.span.To})
	}
	if len(l) > most {
		add = slices.Concat(l, add)
	} else {
		for _, s := range l {
			there = append(there, bucket{span: s})
		}
	}
	for _, s := range add {
		come(bucket{span: s})
	}
	for range many {
		come(bucket{span: api.Span{From: tick, To: tick}, ofMany: true})
	}
	for _, b := range there {
		out.stays = append(out.stays, b.span)
	}
	return out
}

// spans are so many unlike buckets, in turn, behind a tick.
func spans(many int, behind uint64) []api.Span {
	var l []api.Span
	for i := range uint64(many) {
		l = append(l, api.Span{From: behind + 3*i + 1, To: behind + 3*i + 2 + i%2})
	}
	return l
}

// s is buckets by their From and To.
func s(ticks ...uint64) []api.Span {
	var l []api.Span
	for pair := range slices.Chunk(ticks, 2) {
		l = append(l, api.Span{From: pair[0], To: pair[1]})
	}
	return l
}

const (
	behindAll = 1 << 40 // a tick behind all of spans
	behindAdd = 1 << 20 // one behind l, ahead of add
)

// mosts are bounds of a level: wrong ones, small ones, and such as are never reached.
func mosts() []int {
	return []int{math.MinInt, -7, -1, 0, 1, 2, 3, 4, 5, 8, 9, 1 << 40, math.MaxInt - 1, math.MaxInt}
}

// fews are how many may come one by one.
func fews() []uint64 {
	return []uint64{0, 1, 2, 3, 4, 5, 6, 7, 8, 9, 10, 16, 17, 30, 31}
}

// greats are too many to come one by one.
func greats() []uint64 {
	return []uint64{
		1 << 40, 1<<40 + 1, 1 << 52, 1<<52 + 1, 1<<53 - 2, 1<<53 - 1, 1 << 53, 1<<63 - 1, 1 << 63, 1<<63 + 1,
		math.MaxUint64 - 2, math.MaxUint64 - 1, math.MaxUint64,
	}
}

// sizes are how many buckets a list has.
func sizes() []int { return []int{0, 1, 2, 3, 4, 5, 6, 8, 9, 10, 13} }

// each calls with all lists, bounds and numbers of the many, each with each.
func each(manys []uint64, mosts []int, call func(l []api.Span, most int, add []api.Span, many uint64)) {
	for _, most := range mosts {
		for _, there := range sizes() {
			for _, come := range sizes() {
				for _, many := range manys {
					call(spans(there, 0), most, spans(come, behindAdd), many)
				}
			}
		}
	}
}

// reached are those of mosts which so many reach that they can't all stay.
func reached() []int {
	return slices.DeleteFunc(mosts(), func(most int) bool { return most > 1000 })
}

// P5.1, worked out by hand.
func TestMostAndLeast(t *testing.T) {
	for _, c := range []struct{ k, level, most int }{
		{math.MinInt, 0, 1}, {math.MinInt, 1, 1}, {math.MinInt + 1, 0, 1}, {math.MinInt + 1, 7, 1},
		{-4, 0, 1}, {-4, 1, 1}, {-3, 0, 1}, {-3, 1, 1}, {-2, 0, 1}, {-2, 2, 1}, {-1, 0, 1}, {-1, 1, 1}, {-1, -1, 1},
		{0, 0, 1}, {0, 1, 1}, {0, -1, 1},
		{1, 0, 2}, {1, 1, 2}, {1, -1, 2},
		{2, 0, 3}, {2, 1, 2}, {2, 2, 2}, {2, 3, 2}, {2, -1, 2},
		{3, 0, 4}, {3, 1, 3}, {3, 2, 3},
		{4, 0, 5}, {4, 1, 3}, {4, 7, 3},
		{5, 0, 6}, {5, 1, 4}, {5, 51, 4}, {5, -1, 4}, {5, math.MinInt, 4}, {5, math.MaxInt, 4},
		{1023, 0, 1024}, {1023, 1, 513},
		{1024, 0, 1025}, {1024, 1, 513}, {1024, 2, 513}, {1024, 52, 513}, {1024, -1, 513},
		{1025, 0, 1026}, {1025, 1, 514},
		{math.MaxInt - 1, 0, math.MaxInt}, {math.MaxInt - 1, 1, 1 << 62}, {math.MaxInt - 1, -1, 1 << 62},
		{math.MaxInt, 1, 1<<62 + 1}, {math.MaxInt, 2, 1<<62 + 1}, {math.MaxInt, -1, 1<<62 + 1},
	} {
		if n := Most(c.k, c.level); n != c.most {
			t.Errorf("Most(%d, %d) is %d, want %d", c.k, c.level, n, c.most)
		}
		if n := Least(c.k, c.level); n != c.most-1 {
			t.Errorf("Least(%d, %d) is %d, want %d", c.k, c.level, n, c.most-1)
		}
	}
	// Most of this one isn't an int, but Least is.
	if n := Least(math.MaxInt, 0); n != math.MaxInt {
		t.Errorf("Least of the greatest int, on the level 0, is %d", n)
	}
}

// P5.1: all that a histogram may ask, and more.
func TestMostAndLeastOfAllK(t *testing.T) {
	for k := -5; k <= api.MaxK+5; k++ {
		up := 0
		for 2*up < k {
			up++
		}
		for _, level := range []int{math.MinInt, -2, -1, 0, 1, 2, 3, 51, 52, 1000, math.MaxInt} {
			want := up
			if level == 0 {
				want = max(k, 0)
			}
			if most, least := Most(k, level), Least(k, level); most != want+1 || least != want {
				t.Fatalf("of k %d on the level %d Most is %d and Least %d, want %d and %d", k, level, most, least, want+1, want)
			}
		}
	}
}

// The example of the chapter.
func TestPushExample(t *testing.T) {
	if p, want := push(nil, 2, nil, 3, 5), (pushed{s(5, 5), nil, 1}); !p.same(want) {
		t.Errorf("it is %v, want %v", p, want)
	}
}

// P5.2, worked out by hand: pairs of l, of add, of the many, and of two of these.
func TestPush(t *testing.T) {
	for _, c := range []struct {
		what string
		l    []api.Span
		most int
		add  []api.Span
		many uint64
		want pushed
	}{
		{"nothing", nil, 2, nil, 0, pushed{}},
		{"one stays", s(1, 2), 2, nil, 0, pushed{stays: s(1, 2)}},
		{"as many as most stay", s(1, 2, 3, 4), 2, nil, 0, pushed{stays: s(1, 2, 3, 4)}},
		{"as many as most come", nil, 2, s(1, 2, 3, 4), 0, pushed{stays: s(1, 2, 3, 4)}},
		{"as many as most are of one tick", nil, 2, nil, 2, pushed{stays: s(90, 90, 90, 90)}},
		{"as many as most, of all three", s(1, 2), 3, s(3, 4), 1, pushed{stays: s(1, 2, 3, 4, 90, 90)}},
		{"two of l, for one of add", s(1, 2, 3, 4), 2, s(5, 6), 0, pushed{stays: s(5, 6), went: s(1, 4)}},
		{"two of l, for one of the many", s(1, 2, 3, 4), 2, nil, 1, pushed{stays: s(90, 90), went: s(1, 4)}},
		{"one of l and one of add", s(1, 2), 2, s(3, 4, 5, 6), 0, pushed{stays: s(5, 6), went: s(1, 4)}},
		{"one of l and one of the many", s(1, 2), 2, nil, 3, pushed{stays: s(90, 90, 90, 90), went: s(1, 90)}},
		{"one of l and one of the many, at once", s(1, 2), 1, nil, 1, pushed{went: s(1, 90)}},
		{"one of add and one of the many", nil, 2, s(1, 2), 2, pushed{stays: s(90, 90), went: s(1, 90)}},
		{"one of add and one of the many, behind a pair", s(1, 2), 1, s(3, 4, 5, 6), 1, pushed{went: s(1, 4, 5, 90)}},
		{"two of add", nil, 3, s(1, 4, 5, 6), 4, pushed{stays: s(90, 90, 90, 90), went: s(1, 6), alike: 1}},
		{"two of the many", nil, 2, nil, 7, pushed{stays: s(90, 90), alike: 3}},
		{"all kinds of pairs", s(1, 2, 3, 4, 5, 6), 3, s(7, 8, 10, 11), 7, pushed{stays: s(90, 90, 90, 90), went: s(1, 4, 5, 8, 10, 90), alike: 2}},
		{"of l and add with the tick of the many", s(90, 90, 90, 90), 2, s(90, 90, 90, 90), 4, pushed{stays: s(90, 90, 90, 90), went: s(90, 90, 90, 90), alike: 1}},
		{"one with the tick of the many, and one of them", s(90, 90), 1, nil, 3, pushed{went: s(90, 90), alike: 1}},
		{"most 1, one", nil, 1, nil, 1, pushed{stays: s(90, 90)}},
		{"most 1, two", nil, 1, nil, 2, pushed{alike: 1}},
		{"most 0, one", nil, 0, s(1, 2), 0, pushed{stays: s(1, 2)}},
		{"most 0, two", s(1, 1), 0, nil, 1, pushed{went: s(1, 90)}},
		{"most -5, three", s(1, 2), -5, s(3, 4, 5, 6), 0, pushed{stays: s(5, 6), went: s(1, 4)}},
		{"the least most", nil, math.MinInt, nil, 5, pushed{stays: s(90, 90), alike: 2}},
		{"the greatest most", s(1, 2), math.MaxInt, s(3, 4), 2, pushed{stays: s(1, 2, 3, 4, 90, 90, 90, 90)}},
		{"more than most, by one", s(1, 1, 2, 2, 3, 3), 1, nil, 0, pushed{stays: s(3, 3), went: s(1, 2)}},
		{"more than most, by two", s(1, 1, 2, 2, 3, 3, 4, 4), 2, nil, 0, pushed{stays: s(3, 3, 4, 4), went: s(1, 2)}},
		{"more than most, by three", s(1, 1, 2, 2, 3, 3, 4, 4, 5, 5), 2, nil, 0, pushed{stays: s(5, 5), went: s(1, 2, 3, 4)}},
		{"more than most, and others", s(1, 1, 2, 2, 3, 3), 2, s(4, 4, 5, 5), 2, pushed{stays: s(90, 90), went: s(1, 2, 3, 4, 5, 90)}},
	} {
		if p := push(c.l, c.most, c.add, c.many, 90); !p.same(c.want) {
			t.Errorf("%s: Push(%v, %d, %v, %d, 90) is %v, want %v", c.what, c.l, c.most, c.add, c.many, p, c.want)
		}
	}
}

// P5.2: each with each, held against buckets that come one by one.
func TestPushOneByOne(t *testing.T) {
	each(fews(), mosts(), func(l []api.Span, most int, add []api.Span, many uint64) {
		if p, want := push(l, most, add, many, behindAll), oneByOne(l, most, add, many, behindAll); !p.same(want) {
			t.Fatalf("Push(%v, %d, %v, %d, %d) is %v, want %v", l, most, add, many, behindAll, p, want)
		}
	})
}

// P5.2: the levels of greater histograms, about as full as may be, and more than full.
func TestPushOneByOneOfGreatLevels(t *testing.T) {
	for _, most := range []int{33, 34, Most(api.MaxK, 1), Most(api.MaxK, 0)} {
		for _, there := range []int{0, 1, most - 2, most - 1, most, most + 1, 2*most + 1} {
			for _, come := range []int{0, 1, 2, most - there%3, most + 1} {
				for _, many := range []int{0, 1, 2, most - 1, most, most + 1, 3*most + 1} {
					l, add := spans(there, 0), spans(come, behindAdd)
					p, want := push(l, most, add, uint64(many), behindAll), oneByOne(l, most, add, uint64(many), behindAll)
					if !p.same(want) {
						t.Fatalf("Push of %d, of most %d, and %d and %d more: %d stay, %d and %d go, want %d, %d and %d", there, most, come, many,
							len(p.stays), len(p.went), p.alike, len(want.stays), len(want.went), want.alike)
					}
				}
			}
		}
	}
}

// P5.2: whatever the ticks are, a bucket is made of the first one's From and the second one's To.
func TestPushOfAnyTicks(t *testing.T) {
	ticks := []uint64{0, 1, api.MaxTick, api.MaxTick + 1, math.MaxUint64}
	for _, from := range ticks {
		for _, to := range ticks {
			for _, tick := range ticks {
				l, add := s(from, to, to, from), s(tick, from, 7, to)
				for _, most := range []int{1, 2, 3, 4, 5, 9} {
					for _, many := range []uint64{0, 1, 2, 5} {
						p, want := push(l, most, add, many, tick), oneByOne(l, most, add, many, tick)
						if !p.same(want) {
							t.Fatalf("Push(%v, %d, %v, %d, %d) is %v, want %v", l, most, add, many, tick, p, want)
						}
					}
				}
			}
		}
	}
}

// P5.2, P1: so many that they can't come one by one, worked out by hand.
func TestPushOfGreatMany(t *testing.T) {
	for _, c := range []struct {
		l    []api.Span
		most int
		add  []api.Span
		many uint64
		want pushed
	}{
		{nil, 2, nil, 1 << 40, pushed{s(9, 9, 9, 9), nil, 1<<39 - 1}},
		{nil, 2, nil, 1<<40 + 1, pushed{s(9, 9), nil, 1 << 39}},
		{nil, 3, nil, 1 << 40, pushed{s(9, 9, 9, 9), nil, 1<<39 - 1}},
		{nil, 2, nil, 1<<53 - 1, pushed{s(9, 9), nil, 1<<52 - 1}},
		{nil, 1, nil, 1<<53 - 1, pushed{s(9, 9), nil, 1<<52 - 1}},
		{nil, 1, nil, 1 << 53, pushed{nil, nil, 1 << 52}},
		{s(1, 2), 2, nil, 1<<53 - 1, pushed{s(9, 9, 9, 9), s(1, 9), 1<<52 - 2}},
		{s(1, 2, 3, 4), 2, s(5, 6), 1 << 40, pushed{s(9, 9), s(1, 4, 5, 9), 1<<39 - 1}},
		{s(1, 2), 1, s(3, 4), 1 << 40, pushed{nil, s(1, 4), 1 << 39}},
		{nil, 1, nil, math.MaxUint64, pushed{s(9, 9), nil, 1<<63 - 1}},
		{s(1, 2), 1, nil, math.MaxUint64, pushed{nil, s(1, 9), 1<<63 - 1}},
		{s(1, 2), 1, s(3, 4), math.MaxUint64, pushed{s(9, 9), s(1, 4), 1<<63 - 1}},
		{s(1, 2), 2, s(3, 4, 5, 6), math.MaxUint64, pushed{s(9, 9, 9, 9), s(1, 4, 5, 9), 1<<63 - 2}},
	} {
		if p := push(c.l, c.most, c.add, c.many, 9); !p.same(c.want) {
			t.Errorf("Push(%v, %d, %v, %d, 9) is %v, want %v", c.l, c.most, c.add, c.many, p, c.want)
		}
	}
}

// P5.2: two more of the many are one pair more, once there is no place for them; and so many as may come one by one are known.
func TestPushOfGreatManyAsOfFew(t *testing.T) {
	each(greats(), reached(), func(l []api.Span, most int, add []api.Span, many uint64) {
		few := 40 + many%2
		want := oneByOne(l, most, add, few, behindAll)
		want.alike += (many - few) / 2
		if p := push(l, most, add, many, behindAll); !p.same(want) {
			t.Fatalf("Push(%v, %d, %v, %d, %d) is %v, want %v", l, most, add, many, behindAll, p, want)
		}
	})
}

// P5.2: buckets stand in turn, and what goes is older than what stays.
func TestPushKeepsTheTurn(t *testing.T) {
	each(append(fews(), 1<<53-1), reached(), func(l []api.Span, most int, add []api.Span, many uint64) {
		p := push(l, most, add, many, behindAll)
		all := slices.Clone(p.went)
		if p.alike > 0 {
			all = append(all, api.Span{From: behindAll, To: behindAll})
		}
		all = append(all, p.stays...)
		last := uint64(0)
		for _, b := range all {
			if b.From > b.To || b.From < last {
				t.Fatalf("Push(%v, %d, %v, %d, %d) is %v: %v stands behind %d", l, most, add, many, behindAll, p, b, last)
			}
			last = b.To
		}
	})
}

// P5.3, P3: twice what goes, and what stays, are what was there, and what came.
func TestNoUnitIsLost(t *testing.T) {
	count := func(many uint64, others ...int) *big.Int {
		n := new(big.Int).SetUint64(many)
		for _, o := range others {
			n.Add(n, big.NewInt(int64(o)))
		}
		return n
	}
	check := func(l []api.Span, most int, add []api.Span, many uint64) {
		p := push(l, most, add, many, behindAll)
		came := count(many, len(l), len(add))
		n := count(p.alike, len(p.went))
		n.Add(n.Lsh(n, 1), count(0, len(p.stays)))
		if n.Cmp(came) != 0 {
			t.Fatalf("Push(%v, %d, %v, %d, %d) is %v: of %v there are %v", l, most, add, many, behindAll, p, came, n)
		}
		room := max(most, 1)
		if len(p.stays) > room || len(p.stays) < room-1 && (len(p.went) > 0 || p.alike > 0) {
			t.Fatalf("Push(%v, %d, %v, %d, %d) is %v: %d stay", l, most, add, many, behindAll, p, len(p.stays))
		}
	}
	each(fews(), mosts(), check)
	each(greats(), reached(), check)
}

// run is so many buckets that are alike, one behind the other.
type run struct {
	span api.Span
	many uint64
}

// runs are all buckets that went, by several calls, one behind the other.
func runs(tick uint64, calls ...pushed) []run {
	var l []run
	add := func(b api.Span, many uint64) {
		if many == 0 {
			return
		}
		if last := len(l) - 1; last >= 0 && l[last].span == b {
			l[last].many += many
			return
		}
		l = append(l, run{b, many})
	}
	for _, p := range calls {
		for _, b := range p.went {
			add(b, 1)
		}
		add(api.Span{From: tick, To: tick}, p.alike)
	}
	return l
}

// sameInTwo tells whether two calls, one behind the other, left and sent the same as one.
func sameInTwo(tick uint64, whole, first, second pushed) bool {
	return slices.Equal(whole.stays, second.stays) && slices.Equal(runs(tick, whole), runs(tick, first, second))
}

// P5.3: pushed in two, it is as pushed at once, wherever it is cut.
func TestPushInTwo(t *testing.T) {
	const tick = behindAll
	check := func(l []api.Span, most int, add []api.Span, many uint64) {
		whole := push(l, most, add, many, tick)
		for cut := range len(add) + 1 {
			first := push(l, most, add[:cut], 0, tick)
			if second := push(first.stays, most, add[cut:], many, tick); !sameInTwo(tick, whole, first, second) {
				t.Fatalf("Push(%v, %d, %v, %d, %d) is %v; cut at %d of add: %v, %v", l, most, add, many, tick, whole, cut, first, second)
			}
		}
		for _, cut := range []uint64{1, 2, 3, many / 2, many/2 + 1, many - 1, many} {
			if cut > many {
				continue
			}
			first := push(l, most, add, cut, tick)
			if second := push(first.stays, most, nil, many-cut, tick); !sameInTwo(tick, whole, first, second) {
				t.Fatalf("Push(%v, %d, %v, %d, %d) is %v; cut at %d of the many: %v, %v", l, most, add, many, tick, whole, cut, first, second)
			}
		}
	}
	each(fews(), mosts(), check)
	each(greats(), reached(), check)
}

// P5.2: an l of more buckets than most is as if it came ahead of add, to a level without any.
func TestPushMoreThanMost(t *testing.T) {
	each(append(fews(), 1<<53-1), reached(), func(l []api.Span, most int, add []api.Span, many uint64) {
		p, want := push(l, most, add, many, behindAll), push(nil, most, slices.Concat(l, add), many, behindAll)
		if !p.same(want) {
			t.Fatalf("Push(%v, %d, %v, %d, %d) is %v, want %v", l, most, add, many, behindAll, p, want)
		}
	})
}

// P5.2: a most below 1 is as 1.
func TestPushMostBelowOne(t *testing.T) {
	each(append(fews(), 1<<53-1), []int{math.MinInt, -1024, -2, -1, 0}, func(l []api.Span, most int, add []api.Span, many uint64) {
		if p, want := push(l, most, add, many, behindAll), push(l, 1, add, many, behindAll); !p.same(want) {
			t.Fatalf("Push(%v, %d, %v, %d, %d) is %v, want %v", l, most, add, many, behindAll, p, want)
		}
	})
}

// R2.
func TestPushNilAndEmpty(t *testing.T) {
	for _, most := range mosts() {
		for _, many := range fews() {
			want := oneByOne(nil, most, nil, many, 9)
			for _, l := range [][]api.Span{nil, {}} {
				for _, add := range [][]api.Span{nil, {}} {
					if p := push(l, most, add, many, 9); !p.same(want) {
						t.Errorf("Push(%#v, %d, %#v, %d, 9) is %v, want %v", l, most, add, many, p, want)
					}
				}
			}
		}
	}
}

// R3: what is handed in stays as it is, and so does the room behind it.
func TestPushLeavesWhatIsHandedIn(t *testing.T) {
	each([]uint64{0, 1, 2, 5, 9}, mosts(), func(l []api.Span, most int, add []api.Span, many uint64) {
		roomy := func(b []api.Span) ([]api.Span, []api.Span) {
			all := slices.Concat(b, s(71, 72, 73, 74, 75, 76, 77, 78))
			return all, slices.Clone(all)
		}
		allL, wantL := roomy(l)
		allAdd, wantAdd := roomy(add)
		Push(allL[:len(l)], most, allAdd[:len(add)], many, behindAll)
		if !slices.Equal(allL, wantL) || !slices.Equal(allAdd, wantAdd) {
			t.Fatalf("Push(%v, %d, %v, %d, %d) made %v of l and %v of add", l, most, add, many, behindAll, allL, allAdd)
		}
	})
}

// R3, R4: what a caller does with one answer is seen neither in what was handed in, nor in another answer.
func TestPushSharesNothing(t *testing.T) {
	spoil := func(b []api.Span) {
		for i := range b[:cap(b)] {
			b[:cap(b)][i] = api.Span{From: 666, To: 666}
		}
	}
	each([]uint64{0, 1, 2, 5, 9}, mosts(), func(l []api.Span, most int, add []api.Span, many uint64) {
		wantL, wantAdd := slices.Clone(l), slices.Clone(add)
		want := oneByOne(l, most, add, many, behindAll)
		first, second := push(l, most, add, many, behindAll), push(l, most, add, many, behindAll)
		spoil(first.stays)
		if !slices.Equal(first.went, want.went) {
			t.Fatalf("what went became %v, want %v", first.went, want.went)
		}
		spoil(first.went)
		if !slices.Equal(l, wantL) || !slices.Equal(add, wantAdd) || !second.same(want) {
			t.Fatalf("of Push(%v, %d, %v, %d, %d) the second answer became %v, want %v", l, most, add, many, behindAll, second, want)
		}
		if third := push(l, most, add, many, behindAll); !third.same(want) {
			t.Fatalf("of Push(%v, %d, %v, %d, %d) the third answer is %v, want %v", l, most, add, many, behindAll, third, want)
		}
	})
}
