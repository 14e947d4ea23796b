package count

import (
	"iter"
	"math"
	"math/big"
	"math/bits"
	"slices"
	"testing"

	"skylight/api"
	"skylight/buffer"
	"skylight/check"
	"skylight/expiry"
	"skylight/hist"
	"skylight/replay"
)

// most is the greatest number, of ticks, weights and spans.
const most = math.MaxUint64

// at is an event; its key is never asked.
func at(tick, weight uint64) api.Event {
	return api.Event{Tick: tick, Key: tick*31 + weight, Weight: weight}
}

// s is events by their ticks and weights.
func s(pairs ...uint64) []api.Event {
	var l []api.Event
	for pair := range slices.Chunk(pairs, 2) {
		l = append(l, at(pair[0], pair[1]))
	}
	return l
}

// spans is buckets by their From and To.
func spans(ticks ...uint64) []api.Span {
	var l []api.Span
	for pair := range slices.Chunk(ticks, 2) {
		l = append(l, api.Span{From: pair[0], To: pair[1]})
	}
	return l
}

// waits is a buffer of these.
func waits(late uint64, room int, mark, front uint64, events ...api.Event) buffer.Buf {
	return buffer.Buf{Late: late, Room: room, Mark: mark, Front: front, Events: events}
}

// past is a histogram of these levels.
func past(k, gen int, levels ...[]api.Span) hist.Hist {
	return hist.Hist{K: k, Gen: gen, Levels: levels}
}

// of is a sketch of these.
func of(window uint64, wait buffer.Buf, past hist.Hist) Sketch {
	return Sketch{Window: window, Wait: wait, Past: past}
}

// begun is a sketch to which nothing came.
func begun(t *testing.T, k int, window, late uint64, room int) Sketch {
	t.Helper()
	n, e := New(k, window, late, room)
	if e != api.OK {
		t.Fatalf("New(%d, %d, %d, %d) tells %d", k, window, late, room, e)
	}
	return n
}

// added is a sketch to which some more came.
func added(t *testing.T, n Sketch, events ...api.Event) Sketch {
	t.Helper()
	for _, event := range events {
		next, e := Add(n, event)
		if e != api.OK {
			t.Fatalf("Add(%v, %v) tells %d", n, event, e)
		}
		n = next
	}
	return n
}

// made is one of K 2, Window 10, Late 2 and Room 9, to which some came.
func made(t *testing.T, events ...api.Event) Sketch {
	t.Helper()
	return added(t, begun(t, 2, 10, 2, 9), events...)
}

// moved is a sketch whose time went on.
func moved(t *testing.T, n Sketch, tick uint64) Sketch {
	t.Helper()
	next, e := Move(n, tick)
	if e != api.OK {
		t.Fatalf("Move(%v, %d) tells %d", n, tick, e)
	}
	return next
}

// merged is some as one.
func merged(t *testing.T, l ...Sketch) Sketch {
	t.Helper()
	n, e := Merge(l...)
	if e != api.OK {
		t.Fatalf("Merge(%v) tells %d", l, e)
	}
	return n
}

// aged is a sketch that was merged so often, alone.
func aged(t *testing.T, gen int, n Sketch) Sketch {
	t.Helper()
	for range gen {
		n = merged(t, n)
	}
	return n
}

// asked is what Query tells, of a tick and a span that may be.
func asked(t *testing.T, n Sketch, tick, span uint64) uint64 {
	t.Helper()
	told, e := Query(n, tick, span)
	if e != api.OK {
		t.Fatalf("Query(%v, %d, %d) tells %d", n, tick, span, e)
	}
	return told
}

// equal tells whether two sketches are the same, field by field, without Same.
func equal(a, b Sketch) bool {
	wait := a.Wait.Late == b.Wait.Late && a.Wait.Room == b.Wait.Room && a.Wait.Mark == b.Wait.Mark && a.Wait.Front == b.Wait.Front && slices.Equal(a.Wait.Events, b.Wait.Events)
	past := a.Past.K == b.Past.K && a.Past.Gen == b.Past.Gen && slices.EqualFunc(a.Past.Levels, b.Past.Levels, slices.Equal)
	return a.Window == b.Window && wait && past
}

// empty tells whether a sketch is the zero one.
func empty(n Sketch) bool { return equal(n, Sketch{}) }

// expect tells what is wrong of a sketch.
func expect(t *testing.T, what string, n, want Sketch) {
	t.Helper()
	if !equal(n, want) {
		t.Errorf("%s: it is %v, want %v", what, n, want)
	}
}

// expectAdd asks Add, and tells what is wrong.
func expectAdd(t *testing.T, what string, n Sketch, e api.Event, want Sketch) {
	t.Helper()
	expect(t, what, added(t, n, e), want)
}

// expectMove asks Move, and tells what is wrong.
func expectMove(t *testing.T, what string, n Sketch, tick uint64, want Sketch) {
	t.Helper()
	expect(t, what, moved(t, n, tick), want)
}

// expectQuery asks Query, and tells what is wrong.
func expectQuery(t *testing.T, what string, n Sketch, tick, span, want uint64, err api.Errno) {
	t.Helper()
	if told, e := Query(n, tick, span); told != want || e != err {
		t.Errorf("%s: Query(%v, %d, %d) tells %d, %d, want %d, %d", what, n, tick, span, told, e, want, err)
	}
}

// refusedAdd asks Add for an error, with nothing beside it.
func refusedAdd(t *testing.T, what string, n Sketch, event api.Event, want api.Errno) {
	t.Helper()
	if told, e := Add(n, event); e != want || !empty(told) {
		t.Errorf("%s: Add(%v, %v) tells %v, %d, want %d", what, n, event, told, e, want)
	}
}

// refusedMerge asks Merge for an error, with nothing beside it.
func refusedMerge(t *testing.T, what string, want api.Errno, l ...Sketch) {
	t.Helper()
	if told, e := Merge(l...); e != want || !empty(told) {
		t.Errorf("%s: Merge tells %v, %d, want %d", what, told, e, want)
	}
}

// number is a whole number.
func number(n uint64) *big.Int { return new(big.Int).SetUint64(n) }

// above tells whether some weights are, together, whole, more than a limit.
func above(limit uint64, weights ...uint64) bool {
	all := new(big.Int)
	for _, weight := range weights {
		all.Add(all, number(weight))
	}
	return all.Cmp(number(limit)) > 0
}

// isWithin tells whether a tick is within, by the chapters' words and whole numbers.
func isWithin(of, tick, span uint64) bool {
	sum, carry := bits.Add64(of, span, 0)
	return of <= tick && (carry > 0 || sum > tick)
}

// weightOf is how much events weigh, and their buckets' units in a histogram, one by one.
func weightOf(n Sketch) []uint64 {
	var l []uint64
	for _, e := range n.Wait.Events {
		l = append(l, e.Weight)
	}
	size := uint64(1)
	for _, level := range n.Past.Levels {
		l = append(l, slices.Repeat([]uint64{size}, len(level))...)
		size *= 2
	}
	return l
}

// plainPassOn is what passing on makes, by the chapter's words.
func plainPassOn(t *testing.T, n Sketch, wait buffer.Buf, out []api.Event) Sketch {
	t.Helper()
	n.Wait = wait
	for _, event := range out {
		var e api.Errno
		if n.Past, e = hist.Add(n.Past, event.Tick, event.Weight); e != api.OK {
			t.Fatalf("hist.Add of %v tells %d", event, e)
		}
	}
	n.Past = expiry.Drop(n.Past, n.Wait.Front, n.Window)
	return n
}

// plainAdd is what Add should tell, by the chapter's words and whole numbers.
func plainAdd(t *testing.T, n Sketch, event api.Event) (Sketch, api.Errno) {
	t.Helper()
	wait, out, e := buffer.Push(n.Wait, event)
	if e != api.OK {
		return Sketch{}, e
	}
	if above(1<<52, append(weightOf(n), event.Weight)...) {
		return Sketch{}, api.ErrOver
	}
	return plainPassOn(t, n, wait, out), api.OK
}

// plainMove is what Move should tell, by the chapter's words.
func plainMove(t *testing.T, n Sketch, tick uint64) (Sketch, api.Errno) {
	t.Helper()
	wait, out, e := buffer.Move(n.Wait, tick)
	if e != api.OK {
		return Sketch{}, e
	}
	return plainPassOn(t, n, wait, out), api.OK
}

// plainMerge is what Merge should tell, by the chapter's words, of what may be merged.
func plainMerge(t *testing.T, l ...Sketch) Sketch {
	t.Helper()
	var bufs []buffer.Buf
	var pasts []hist.Hist
	for _, n := range l {
		bufs = append(bufs, n.Wait)
		pasts = append(pasts, n.Past)
	}
	wait, out := buffer.Join(bufs...)
	past, e := replay.With(out, pasts...)
	if e != api.OK {
		t.Fatalf("replay.With tells %d", e)
	}
	wait, out, e = buffer.Move(wait, wait.Mark)
	if e != api.OK {
		t.Fatalf("buffer.Move tells %d", e)
	}
	return plainPassOn(t, of(l[0].Window, wait, past), wait, out)
}

// turns tells a list in all its turns; each is written over by the next one.
func turns[E any](l []E) iter.Seq[[]E] {
	return func(yield func([]E) bool) {
		now := slices.Clone(l)
		var from func(i int) bool
		from = func(i int) bool {
			if i >= len(now) {
				return yield(now)
			}
			for j := i; j < len(now); j++ {
				now[i], now[j] = now[j], now[i]
				on := from(i + 1)
				now[i], now[j] = now[j], now[i]
				if !on {
					return false
				}
			}
			return true
		}
		from(0)
	}
}

// dice tell numbers that look as if by chance, the same each time.
type dice struct{ state uint64 }

// below is a number below another one.
func (d *dice) below(n uint64) uint64 {
	d.state = d.state*6364136223846793005 + 1442695040888963407
	return d.state >> 33 % n
}

// ks are numbers of k: the least and the greatest one, odd and even ones.
func ks() []int { return []int{api.MinK, 3, 4, 5, 9, 31, 1023, api.MaxK} }

// windows are the least and the greatest one, short and long ones.
func windows() []uint64 { return []uint64{1, 2, 10, 300, 1 << 40, 1<<62 - 1, 1 << 62} }

// lates are how late events may come: the least and the greatest one, few and many.
func lates() []uint64 { return []uint64{0, 1, 5, 40, 1<<62 - 1, 1 << 62} }

// rooms are how many events may wait: the least and the greatest one, few and many.
func rooms() []int { return []int{1, 2, 8, 40, 1023, 1024} }

// confs calls with sketches of each of some k, windows, lates and rooms, to which nothing came.
func confs(t *testing.T, do func(n Sketch, d *dice)) {
	t.Helper()
	seed := uint64(0)
	for _, k := range []int{api.MinK, 3, 8, api.MaxK} {
		for _, window := range []uint64{1, 10, 60, 1 << 62} {
			for _, late := range []uint64{0, 3, 30, 1 << 62} {
				for _, room := range []int{1, 3, 12, 1024} {
					seed++
					do(begun(t, k, window, late, room), &dice{seed})
				}
			}
		}
	}
}

// deed is an event that comes, or, if the weight is 0, a move to the tick.
type deed = api.Event

// deed is one that may be done to a sketch, by chance.
func (d *dice) deed(n Sketch) deed {
	if d.below(6) == 0 {
		return deed{Tick: d.below(n.Wait.Mark + 4)}
	}
	return deed{Tick: n.Wait.Front + d.below(1+min(n.Wait.Late, 40)+d.below(4)), Key: d.below(99), Weight: 1 + d.below(1<<d.below(7))}
}

// do does a deed.
func do(t *testing.T, n Sketch, e deed) Sketch {
	t.Helper()
	if e.Weight == 0 {
		return moved(t, n, e.Tick)
	}
	return added(t, n, e)
}

// filled is a sketch to which so many deeds were done.
func (d *dice) filled(t *testing.T, n Sketch, many int) Sketch {
	t.Helper()
	for range many {
		n = do(t, n, d.deed(n))
	}
	return n
}

// ticks are some at which a sketch may be asked: from its Front on, about its Mark, and far on.
func ticks(n Sketch) []uint64 {
	front, mark := n.Wait.Front, n.Wait.Mark
	l := []uint64{front, front + 1, (front + mark) / 2, mark, mark + 1, mark + min(n.Window, 50)/2, mark + 50, api.MaxTick - 1, api.MaxTick}
	slices.Sort(l)
	l = slices.Compact(l)
	return slices.DeleteFunc(l, func(tick uint64) bool { return tick < front || tick > api.MaxTick })
}

// lengths are some spans of which a sketch may be asked.
func lengths(n Sketch) []uint64 {
	l := []uint64{1, 2, 3, 7, n.Window / 3, n.Window / 2, n.Window - min(1, n.Window-1), n.Window}
	slices.Sort(l)
	l = slices.Compact(l)
	return slices.DeleteFunc(l, func(span uint64) bool { return span == 0 || span > n.Window })
}

// checkMade tells what is wrong, if a sketch may not be, or is too great.
func checkMade(t *testing.T, n Sketch) {
	t.Helper()
	if e := buffer.May(n.Wait); e != api.OK || len(n.Wait.Events) > n.Wait.Room {
		t.Fatalf("its buffer may not be: %d, %v", e, n)
	}
	if e := check.Hist(n.Past); e != api.OK {
		t.Fatalf("its histogram may not be: %d, %v", e, n)
	}
	if have, may := check.Buckets(n.Past), check.Bound(n.Past.K, n.Past.Gen, hist.Total(n.Past)); have > may {
		t.Fatalf("it has %d buckets, of %d at most: %v", have, may, n)
	}
	for _, level := range n.Past.Levels {
		for _, b := range level {
			if b.To > n.Wait.Front || expiry.Old(b.To, n.Wait.Front, n.Window) {
				t.Fatalf("of Front %d and Window %d there is the bucket %v", n.Wait.Front, n.Window, b)
			}
		}
	}
	if above(1<<52, weightOf(n)...) {
		t.Fatalf("it weighs too much: %v", n)
	}
}

// The example of the chapter: what waits is told exactly.
func TestExample(t *testing.T) {
	n := made(t, s(5, 1000, 8, 7, 7, 90, 8, 5)...)
	expect(t, "two ticks wait", n, of(10, waits(2, 9, 8, 6, s(7, 90, 8, 7, 8, 5)...), made(t, s(5, 1000, 8, 1)...).Past))
	expectQuery(t, "8", n, 8, 1, 12, api.OK)
	expectQuery(t, "7 and 8", n, 8, 2, 102, api.OK)
	expectQuery(t, "6 to 8", n, 8, 3, 102, api.OK)
	expectQuery(t, "7", n, 7, 1, 90, api.OK)
	n = made(t, s(2, 3, 1, 20, 0, 100)...)
	for span, want := range []uint64{3, 23, 123, 123} {
		expectQuery(t, "all wait", n, 2, uint64(span)+1, want, api.OK)
	}
}

// P14.1: each bound of all four, and all others.
func TestNew(t *testing.T) {
	for _, k := range ks() {
		for _, window := range windows() {
			for _, late := range lates() {
				for _, room := range rooms() {
					n, e := New(k, window, late, room)
					if e != api.OK || !equal(n, of(window, waits(late, room, 0, 0), past(k, 0))) {
						t.Errorf("New(%d, %d, %d, %d) tells %v, %d", k, window, late, room, n, e)
					}
					expectQuery(t, "empty", n, 0, 1, 0, api.OK)
					expectQuery(t, "empty", n, api.MaxTick, window, 0, api.OK)
				}
			}
		}
	}
}

// P14.1: ErrConf, with nothing beside it: of each that may not be, by itself and with others.
func TestNewOfWrong(t *testing.T) {
	type conf struct {
		k            int
		window, late uint64
		room         int
	}
	right := conf{2, 10, 2, 9}
	wrong := func(c conf) {
		t.Helper()
		if n, e := New(c.k, c.window, c.late, c.room); e != api.ErrConf || !empty(n) {
			t.Errorf("New of %v tells %v, %d", c, n, e)
		}
	}
	wrongKs := []int{1, 0, -1, -2, math.MinInt, 1025, 2048, math.MaxInt}
	wrongWindows := []uint64{0, 1<<62 + 1, 1 << 63, 1<<63 - 1, most}
	wrongLates := []uint64{1<<62 + 1, 1 << 63, most}
	wrongRooms := []int{0, -1, math.MinInt, 1025, math.MaxInt}
	for _, k := range append(wrongKs, right.k) {
		for _, window := range append(wrongWindows, right.window) {
			for _, late := range append(wrongLates, right.late) {
				for _, room := range append(wrongRooms, right.room) {
					if c := (conf{k, window, late, room}); c != right {
						wrong(c)
					}
				}
			}
		}
	}
	for _, k := range wrongKs {
		wrong(conf{k, 1 << 62, 1 << 62, 1024})
	}
	for _, window := range wrongWindows {
		wrong(conf{1024, window, 1 << 62, 1024})
	}
	for _, late := range wrongLates {
		wrong(conf{1024, 1 << 62, late, 1024})
	}
	for _, room := range wrongRooms {
		wrong(conf{1024, 1 << 62, 1 << 62, room})
	}
}

// P14.2: by hand, of a sketch in which two wait.
func TestAdd(t *testing.T) {
	none := past(2, 0)
	two := of(10, waits(2, 9, 5, 3, s(4, 1, 5, 3)...), none)
	expect(t, "5 and 4", made(t, s(5, 3, 4, 1)...), two)
	expectAdd(t, "it waits", two, at(5, 9), of(10, waits(2, 9, 5, 3, s(4, 1, 5, 3, 5, 9)...), none))
	expectAdd(t, "late, but still taken", two, at(4, 2), of(10, waits(2, 9, 5, 3, s(4, 1, 4, 2, 5, 3)...), none))
	expectAdd(t, "it goes out at once", two, at(3, 2), of(10, waits(2, 9, 5, 3, s(4, 1, 5, 3)...), past(2, 0, spans(3, 3, 3, 3))))
	expectAdd(t, "another goes out", two, at(6, 9), of(10, waits(2, 9, 6, 4, s(5, 3, 6, 9)...), past(2, 0, spans(4, 4))))
	expectAdd(t, "both go out", two, at(8, 9), of(10, waits(2, 9, 8, 6, s(8, 9)...), past(2, 0, spans(5, 5, 5, 5), spans(4, 5))))
	expectAdd(t, "both go out, to be dropped", two, at(90, 9), of(10, waits(2, 9, 90, 88, s(90, 9)...), none))
	end := uint64(api.MaxTick)
	expectAdd(t, "the last tick", two, at(end, 9), of(10, waits(2, 9, end, end-2, at(end, 9)), none))
	expectAdd(t, "an event of Tick 0", begun(t, 2, 10, 0, 9), at(0, 3), of(10, waits(0, 9, 0, 0), past(2, 0, spans(0, 0, 0, 0, 0, 0))))
	refusedAdd(t, "too late", two, at(2, 1), api.ErrLate)
	refusedAdd(t, "far too late", two, at(0, 1), api.ErrLate)
	refusedAdd(t, "no weight", two, at(5, 0), api.ErrArg)
	refusedAdd(t, "too great a tick", two, at(1<<63, 1), api.ErrTick)
	refusedAdd(t, "the greatest tick", two, at(most, 1), api.ErrTick)
}

// P14.2: what goes out for want of room is passed on, too, with what waits behind it of that tick.
func TestAddOfRoom(t *testing.T) {
	n := added(t, begun(t, 2, 10, 100, 2), s(5, 1, 5, 1)...)
	expect(t, "two wait", n, of(10, waits(100, 2, 5, 0, s(5, 1, 5, 1)...), past(2, 0)))
	expectAdd(t, "the first ones", n, at(7, 4), of(10, waits(100, 2, 7, 5, s(7, 4)...), past(2, 0, spans(5, 5, 5, 5))))
	expectAdd(t, "an older one", n, at(2, 1), of(10, waits(100, 2, 5, 2, s(5, 1, 5, 1)...), past(2, 0, spans(2, 2))))
	expectAdd(t, "all", n, at(5, 1), of(10, waits(100, 2, 5, 5), past(2, 0, spans(5, 5, 5, 5, 5, 5))))
}

// P14.2: the weight that comes, that waits and that is past, together, the most that may be, and more.
func TestTooMuch(t *testing.T) {
	const all = 1 << 52
	long := begun(t, 2, 1<<62, 2, 9)
	for _, c := range []struct {
		what string
		n    Sketch
		have uint64
	}{
		{"none", long, 0},
		{"one waits", added(t, long, s(5, 7)...), 7},
		{"several wait", added(t, long, s(5, 7, 4, 100, 5, 1<<40)...), 107 + 1<<40},
		{"one is past", moved(t, added(t, long, s(5, 7)...), 9), 7},
		{"much is past", moved(t, added(t, long, s(5, 1<<51, 5, 1<<51-9)...), 9), 1<<52 - 9},
		{"both", added(t, long, s(5, 7, 5, 1000, 9, 30)...), 1037},
		{"both, much", added(t, long, s(5, 1<<51, 5, 1000, 9, 1<<50)...), 1<<51 + 1000 + 1<<50},
		{"1 is left", added(t, long, s(5, 1<<51, 9, 1<<51-1)...), 1<<52 - 1},
	} {
		for _, tick := range []uint64{c.n.Wait.Front, c.n.Wait.Mark, c.n.Wait.Mark + 1, c.n.Wait.Mark + 100, 1 << 61} {
			n := added(t, c.n, at(tick, all-c.have))
			checkMade(t, n)
			if have := buffer.Weight(n.Wait) + hist.Total(n.Past); n.Past.K != 2 || have != all {
				t.Errorf("%s: with all that may come it weighs %d", c.what, have)
			}
			for _, weight := range []uint64{all - c.have + 1, all + 1, 1 << 63, most - c.have, most - 5, most} {
				refusedAdd(t, c.what+", more", c.n, at(tick, weight), api.ErrOver)
			}
			if c.have > 1 {
				refusedAdd(t, c.what+", 2^64", c.n, at(tick, most-c.have+1), api.ErrOver)
				refusedAdd(t, c.what+", so that it wraps", c.n, at(tick, most-c.have+2), api.ErrOver)
			}
			refusedAdd(t, c.what+", at its most", n, at(1<<61, 1), api.ErrOver)
		}
	}
}

// P14.2: also where by that event so much is old that there is room; behind a Move there is.
func TestTooMuchOfOld(t *testing.T) {
	n := made(t, s(5, 1<<52-1)...)
	refusedAdd(t, "it waits", n, at(100, 2), api.ErrOver)
	n = moved(t, n, 8)
	refusedAdd(t, "it is past", n, at(100, 2), api.ErrOver)
	refusedAdd(t, "it goes out at once", n, at(6, 2), api.ErrOver)
	expectAdd(t, "no more than there is room for", n, at(100, 1), of(10, waits(2, 9, 100, 98, at(100, 1)), past(2, 0)))
	n = moved(t, n, 100)
	expectAdd(t, "behind a Move", n, at(100, 1<<52), of(10, waits(2, 9, 100, 98, at(100, 1<<52)), past(2, 0)))
}

// P14.2, R1: which error is told where several apply.
func TestAddOfSeveral(t *testing.T) {
	n := moved(t, made(t, s(5, 1<<52)...), 20)
	n = added(t, n, at(20, 1<<52))
	refusedAdd(t, "no weight, too great a tick", n, at(1<<63, 0), api.ErrArg)
	refusedAdd(t, "no weight, too late", n, at(5, 0), api.ErrArg)
	refusedAdd(t, "too great a tick, too much", n, at(1<<63, most), api.ErrTick)
	refusedAdd(t, "too late, too much", n, at(17, 1), api.ErrLate)
	refusedAdd(t, "too late, far too much", n, at(0, most), api.ErrLate)
	refusedAdd(t, "too much alone", n, at(18, 1), api.ErrOver)
}

// P14.2: Move back, to where it is, and on.
func TestMove(t *testing.T) {
	n := made(t, s(5, 3, 8, 4, 7, 1)...)
	fives := past(2, 0, spans(5, 5, 5, 5, 5, 5))
	expect(t, "three", n, of(10, waits(2, 9, 8, 6, s(7, 1, 8, 4)...), fives))
	for _, tick := range []uint64{0, 5, 6, 7, 8} {
		expectMove(t, "no further", n, tick, n)
	}
	expectMove(t, "1 on", n, 9, of(10, waits(2, 9, 9, 7, s(8, 4)...), past(2, 0, spans(5, 5, 7, 7), spans(5, 5))))
	all := past(2, 0, spans(8, 8, 8, 8), spans(8, 8), spans(5, 7))
	for _, tick := range []uint64{10, 13, 18} {
		expectMove(t, "all goes out", n, tick, of(10, waits(2, 9, tick, tick-2), all))
	}
	expectMove(t, "the first is dropped", n, 19, of(10, waits(2, 9, 19, 17), past(2, 0, spans(8, 8, 8, 8), spans(8, 8))))
	for _, tick := range []uint64{20, 1000, api.MaxTick} {
		expectMove(t, "all are dropped", n, tick, of(10, waits(2, 9, tick, tick-2), past(2, 0)))
	}
	for _, tick := range []uint64{1 << 63, 1<<63 + 5, most} {
		if told, e := Move(n, tick); e != api.ErrTick || !empty(told) {
			t.Errorf("Move to %d tells %v, %d", tick, told, e)
		}
	}
}

// P14.2: what goes out comes to Past one by one, in the turn in which it waits.
func TestPassOn(t *testing.T) {
	for _, k := range ks() {
		n := added(t, begun(t, k, 1000, 50, 900), s(50, 7, 3, 2, 40, 1, 3, 5, 9, 1, 12, 80, 40, 6, 39, 3)...)
		h, _ := hist.New(k)
		for _, units := range [][2]uint64{{3, 7}, {9, 1}, {12, 80}, {39, 3}, {40, 7}, {50, 7}} {
			tick := units[0]
			for range units[1] {
				h, _ = hist.Add(h, tick, 1)
			}
			left := slices.DeleteFunc(slices.Clone(n.Wait.Events), func(e api.Event) bool { return e.Tick <= tick })
			expectMove(t, "unit by unit", n, tick+50, of(1000, waits(50, 900, tick+50, tick, left...), h))
		}
	}
}

// P14.2: a bucket that gets old goes behind what comes meanwhile: it may be one with another by then.
func TestDropBehind(t *testing.T) {
	n := added(t, begun(t, 2, 10, 0, 9), s(1, 1, 9, 1, 9, 1)...)
	expect(t, "three", n, of(10, waits(0, 9, 9, 9), past(2, 0, spans(1, 1, 9, 9, 9, 9))))
	expectMove(t, "alone", n, 11, of(10, waits(0, 9, 11, 11), past(2, 0, spans(9, 9, 9, 9))))
	expectAdd(t, "with one more", n, at(11, 1), of(10, waits(0, 9, 11, 11), past(2, 0, spans(9, 9, 11, 11), spans(1, 9))))
	expectAdd(t, "1 ahead of that", n, at(10, 1), of(10, waits(0, 9, 10, 10), past(2, 0, spans(9, 9, 10, 10), spans(1, 9))))
	expectMove(t, "1 ahead of that, alone", n, 10, of(10, waits(0, 9, 10, 10), past(2, 0, spans(1, 1, 9, 9, 9, 9))))
}

// P14.2: by Front, not by Mark, and also where nothing went out.
func TestDropByFront(t *testing.T) {
	n := moved(t, added(t, begun(t, 2, 10, 5, 9), s(4, 3)...), 9)
	fours := past(2, 0, spans(4, 4, 4, 4, 4, 4))
	expect(t, "it is past", n, of(10, waits(5, 9, 9, 4), fours))
	expectMove(t, "Mark is 10 more", n, 14, of(10, waits(5, 9, 14, 9), fours))
	expectMove(t, "Front is 9 more", n, 18, of(10, waits(5, 9, 18, 13), fours))
	expectMove(t, "Front is 10 more", n, 19, of(10, waits(5, 9, 19, 14), past(2, 0)))
	expectAdd(t, "by an event, Front is 9 more", n, at(18, 1), of(10, waits(5, 9, 18, 13, at(18, 1)), fours))
	expectAdd(t, "by an event, Front is 10 more", n, at(19, 1), of(10, waits(5, 9, 19, 14, at(19, 1)), past(2, 0)))
	// Of none that may be Past is so old: dropped is what is, even where Front stays.
	odd := of(10, waits(5, 9, 30, 25), fours)
	expectMove(t, "where Front stays", odd, 0, of(10, waits(5, 9, 30, 25), past(2, 0)))
	expectAdd(t, "where Front stays, by an event", odd, at(30, 1), of(10, waits(5, 9, 30, 25, at(30, 1)), past(2, 0)))
}

// P14.2, P3: by chance, of many confs, held against the chapter's words; all that came waits, or is past, or was dropped.
func TestByWords(t *testing.T) {
	confs(t, func(n Sketch, d *dice) {
		came := uint64(0)
		for range 120 {
			e := d.deed(n)
			next := do(t, n, e)
			want, errno := plainMove(t, n, e.Tick)
			if e.Weight > 0 {
				want, errno = plainAdd(t, n, e)
			}
			came += e.Weight
			if errno != api.OK || !equal(next, want) {
				t.Fatalf("%v of %v is %v, want %v", e, n, next, want)
			}
			checkMade(t, next)
			if have := buffer.Weight(next.Wait) + hist.Total(next.Past); have > came || n.Window == 1<<62 && have != came {
				t.Fatalf("of %d there is %d", came, have)
			}
			n = next
		}
	})
}

// P14.2: by chance, of great weights, and of all edges; what is refused changes nothing.
func TestByWordsOfEdges(t *testing.T) {
	weights := []uint64{0, 1, 2, 1 << 30, 1 << 51, 1<<52 - 1, 1 << 52, 1<<52 + 1, 1 << 63, most - 1, most}
	confs(t, func(n Sketch, d *dice) {
		for range 60 {
			front, mark := n.Wait.Front, n.Wait.Mark
			edges := []uint64{0, front - min(front, 1), front, front + 1, mark, mark + 1, mark + d.below(20), mark + d.below(20), api.MaxTick, 1 << 63, most}
			e := at(edges[d.below(uint64(len(edges)))], weights[d.below(uint64(len(weights)))])
			if e.Tick == api.MaxTick && d.below(8) > 0 {
				e.Tick = mark + 5
			}
			next, errno := Add(n, e)
			want, wantErr := plainAdd(t, n, e)
			if errno != wantErr || !equal(next, want) {
				t.Fatalf("%v of %v is %v, %d, want %v, %d", e, n, next, errno, want, wantErr)
			}
			on, onErr := Move(n, e.Tick)
			wantOn, wantOnErr := plainMove(t, n, e.Tick)
			if onErr != wantOnErr || !equal(on, wantOn) {
				t.Fatalf("Move(%v, %d) is %v, %d, want %v, %d", n, e.Tick, on, onErr, wantOn, wantOnErr)
			}
			if errno == api.OK {
				n = next
			}
		}
	})
}

// P14.3: at Front and 1 below it, at 2^63 less 1 and 1 above it, and a span of 0, 1, Window and 1 more.
func TestQueryOfWrong(t *testing.T) {
	n := made(t, s(5, 3, 8, 4)...)
	for _, span := range []uint64{0, 1, 10, 11, most} {
		for _, tick := range []uint64{0, 5, 1 << 63, 1<<63 + 6, most} {
			expectQuery(t, "a tick that may not be", n, tick, span, 0, api.ErrTick)
		}
	}
	for _, tick := range []uint64{6, 7, 8, 100, api.MaxTick} {
		for _, span := range []uint64{0, 11, 12, 1 << 62, 1 << 63, most} {
			expectQuery(t, "a span that may not be", n, tick, span, 0, api.ErrSpan)
		}
	}
	expectQuery(t, "at Front", n, 6, 10, 3, api.OK)
	expectQuery(t, "at Front, a span of 1", n, 6, 1, 0, api.OK)
	expectQuery(t, "at the end", n, api.MaxTick, 10, 0, api.OK)
	expectQuery(t, "of Front 0, at 0", made(t), 0, 1, 0, api.OK)
	end := uint64(api.MaxTick)
	n = added(t, begun(t, 2, 1<<62, 0, 9), at(end, 5))
	expectQuery(t, "Front at the end", n, end, 1, 5, api.OK)
	expectQuery(t, "Front at the end, 1 below it", n, end-1, 1, 0, api.ErrTick)
	expectQuery(t, "Front at the end, 1 above it", n, end+1, 1, 0, api.ErrTick)
	for _, window := range windows() {
		n := added(t, begun(t, 2, window, 2, 9), at(1<<62, 1))
		expectQuery(t, "the window", n, 1<<62, window, 1, api.OK)
		expectQuery(t, "1 more than the window", n, 1<<62, window+1, 0, api.ErrSpan)
	}
}

// P14.3: of what waits alone, of Past alone, and of both.
func TestQuery(t *testing.T) {
	one := made(t, s(5, 100)...)
	for _, c := range []struct {
		what             string
		n                Sketch
		tick, span, want uint64
	}{
		{"none", made(t), 5, 10, 0},
		{"it waits", one, 5, 1, 100},
		{"it waits, and the tick is ahead of it", one, 4, 10, 0},
		{"it waits, and the span ends behind it", one, 6, 1, 0},
		{"it waits, and the span reaches it", one, 6, 2, 100},
		{"it waits, and Window reaches it", one, 14, 10, 100},
		{"it waits, and Window doesn't", one, 15, 10, 0},
		{"it is past", moved(t, one, 7), 5, 1, 100},
		{"it is past, and the span ends behind it", moved(t, one, 7), 6, 1, 0},
		{"it is past, and the span reaches it", moved(t, one, 7), 6, 2, 100},
		{"it is past, and Window reaches it", moved(t, one, 7), 14, 10, 100},
		{"it is past, and Window doesn't", moved(t, one, 7), 15, 10, 0},
		{"it was dropped", moved(t, one, 17), 15, 10, 0},
		// Past has units at the ticks 1 to 4: on level 0 those of 3 and 4, on level 1 one of 1 to 2.
		{"half of a bucket that is cut", made(t, s(1, 1, 2, 1, 3, 1, 4, 1, 6, 70)...), 4, 3, 3},
		{"half of it, and what waits", made(t, s(1, 1, 2, 1, 3, 1, 4, 1, 6, 70)...), 6, 5, 73},
		{"what is sure, and what waits", made(t, s(1, 1, 2, 1, 3, 1, 4, 1, 6, 70)...), 6, 4, 72},
		{"all, and what waits", made(t, s(1, 1, 2, 1, 3, 1, 4, 1, 6, 70)...), 6, 6, 74},
		{"all, and of what waits the first one", made(t, s(1, 1, 2, 1, 3, 1, 4, 1, 6, 70, 5, 800)...), 5, 10, 804},
		{"much", made(t, s(5, 1<<51, 8, 1<<50, 8, 1<<49)...), 8, 10, 1<<51 + 1<<50 + 1<<49},
	} {
		expectQuery(t, c.what, c.n, c.tick, c.span, c.want, api.OK)
	}
}

// known is a sketch, and all that came to it, or to those of which it was merged.
type known struct {
	n   Sketch
	all []api.Event
}

// came is how much of that is within.
func (n known) came(tick, span uint64) uint64 {
	var all uint64
	for _, e := range n.all {
		if isWithin(e.Tick, tick, span) {
			all += e.Weight
		}
	}
	return all
}

// did is one to which a deed was done.
func (n known) did(t *testing.T, e deed) known {
	t.Helper()
	if e.Weight > 0 {
		n.all = append(slices.Clip(n.all), e)
	}
	n.n = do(t, n.n, e)
	return n
}

// filled is one to which so many deeds were done, by chance.
func (n known) filled(t *testing.T, d *dice, many int) known {
	t.Helper()
	for range many {
		n = n.did(t, d.deed(n.n))
	}
	return n
}

// joined is some as one.
func joined(t *testing.T, l ...known) known {
	t.Helper()
	var all []api.Event
	var sketches []Sketch
	for _, n := range l {
		all = append(all, n.all...)
		sketches = append(sketches, n.n)
	}
	return known{merged(t, sketches...), all}
}

// P14.3: with so great a K that each unit has its own bucket it is just what came, merged or not.
func TestExact(t *testing.T) {
	for seed, c := range []struct {
		window, late uint64
		room         int
	}{{10, 0, 9}, {10, 4, 9}, {25, 40, 3}, {1, 2, 5}, {40, 15, 1}, {1 << 62, 9, 9}} {
		d := &dice{uint64(seed)}
		n := begun(t, api.MaxK, c.window, c.late, c.room)
		var l []known
		for range 4 {
			k := known{n: n}
			for range 60 {
				e := d.deed(k.n)
				e.Weight = min(e.Weight, 4)
				k = k.did(t, e)
				for _, tick := range ticks(k.n) {
					for _, span := range lengths(k.n) {
						expectQuery(t, "just that", k.n, tick, span, k.came(tick, span), api.OK)
					}
				}
			}
			l = append(l, k)
		}
		for _, k := range []known{joined(t, l...), joined(t, joined(t, l[:2]...), l[2]), joined(t, l[3])} {
			for _, tick := range ticks(k.n) {
				for span := uint64(1); span <= min(c.window, 60); span++ {
					expectQuery(t, "just that, merged", k.n, tick, span, k.came(tick, span), api.OK)
				}
			}
		}
	}
}

// P14.4: ErrArg of none.
func TestMergeOfNone(t *testing.T) {
	refusedMerge(t, "nothing", api.ErrArg)
	refusedMerge(t, "an empty list", api.ErrArg, []Sketch{}...)
	refusedMerge(t, "nil", api.ErrArg, []Sketch(nil)...)
}

// P14.4: by hand, of one, two and several.
func TestMerge(t *testing.T) {
	one := made(t, s(5, 3)...)
	two := made(t, s(8, 4)...)
	three := made(t, s(5, 3, 8, 4, 7, 1)...)
	fives := past(2, 1, spans(5, 5, 5, 5, 5, 5))
	for _, c := range []struct {
		what string
		l    []Sketch
		want Sketch
	}{
		{"an empty one", []Sketch{made(t)}, of(10, waits(2, 9, 0, 0), past(2, 1))},
		{"one that waits", []Sketch{one}, of(10, waits(2, 9, 5, 3, s(5, 3)...), past(2, 1))},
		{"one with a past", []Sketch{three}, of(10, waits(2, 9, 8, 6, s(7, 1, 8, 4)...), fives)},
		{"an empty one and one that waits", []Sketch{made(t), one}, of(10, waits(2, 9, 5, 3, s(5, 3)...), past(2, 1))},
		{"one with itself", []Sketch{one, one}, of(10, waits(2, 9, 5, 3, s(5, 3, 5, 3)...), past(2, 1))},
		{"two, of which one's event goes out", []Sketch{one, two}, of(10, waits(2, 9, 8, 6, s(8, 4)...), fives)},
		{"two that wait both", []Sketch{two, three}, of(10, waits(2, 9, 8, 6, s(7, 1, 8, 4, 8, 4)...), fives)},
		{"three", []Sketch{one, two, three}, of(10, waits(2, 9, 8, 6, s(7, 1, 8, 4, 8, 4)...), past(2, 1, spans(5, 5, 5, 5), spans(5, 5, 5, 5)))},
	} {
		for l := range turns(c.l) {
			expect(t, c.what, merged(t, l...), c.want)
		}
	}
}

// P14.4: the greatest Mark and the greatest Front are of two unlike ones.
func TestMergeOfMarkAndFront(t *testing.T) {
	none := begun(t, 2, 40, 20, 1)
	front := added(t, none, s(15, 1, 16, 1)...)
	mark := added(t, none, s(30, 1)...)
	older := added(t, none, s(12, 5)...)
	idle := moved(t, none, 33)
	expect(t, "the greatest Front", front, of(40, waits(20, 1, 16, 15, at(16, 1)), past(2, 0, spans(15, 15))))
	expect(t, "the greatest Mark", mark, of(40, waits(20, 1, 30, 10, at(30, 1)), past(2, 0)))
	expect(t, "older", older, of(40, waits(20, 1, 12, 0, at(12, 5)), past(2, 0)))
	for _, c := range []struct {
		what string
		l    []Sketch
		want Sketch
	}{
		{"two wait", []Sketch{front, mark}, of(40, waits(20, 1, 30, 16, at(30, 1)), past(2, 1, spans(15, 15, 16, 16)))},
		{"three wait", []Sketch{front, mark, older}, of(40, waits(20, 1, 30, 16, at(30, 1)), past(2, 1, spans(12, 12, 15, 15, 16, 16), spans(12, 12, 12, 12)))},
		{"two wait, one goes out", []Sketch{front, older}, of(40, waits(20, 1, 16, 15, at(16, 1)), past(2, 1, spans(12, 12, 15, 15), spans(12, 12, 12, 12)))},
		{"a Mark alone", []Sketch{front, idle}, of(40, waits(20, 1, 33, 15, at(16, 1)), past(2, 1, spans(15, 15)))},
		{"a Mark and its Front alone", []Sketch{older, idle}, of(40, waits(20, 1, 33, 13), past(2, 1, spans(12, 12, 12, 12, 12, 12), spans(12, 12)))},
	} {
		for l := range turns(c.l) {
			expect(t, c.what, merged(t, l...), c.want)
		}
	}
}

// P14.4: where more wait than Room they go out by the first tick of that, until no more wait; of one tick all.
func TestMergeOfRoom(t *testing.T) {
	none := begun(t, 2, 100, 50, 2)
	a := added(t, none, s(10, 1, 20, 2)...)
	b := added(t, none, s(10, 1, 30, 4)...)
	c := added(t, none, s(15, 8, 20, 16)...)
	tens := spans(10, 10, 10, 10)
	for _, x := range []struct {
		what  string
		l     []Sketch
		wait  buffer.Buf
		total uint64
	}{
		{"no more than Room", []Sketch{a, none}, waits(50, 2, 20, 0, s(10, 1, 20, 2)...), 0},
		{"2 more, of one tick", []Sketch{a, b}, waits(50, 2, 30, 10, s(20, 2, 30, 4)...), 2},
		{"4 more, of several ticks", []Sketch{a, b, c}, waits(50, 2, 30, 20, s(30, 4)...), 28},
		{"2 more, of two ticks", []Sketch{a, c}, waits(50, 2, 20, 15, s(20, 2, 20, 16)...), 9},
		{"1 more, of which all go", []Sketch{added(t, none, s(20, 1)...), c, c}, waits(50, 2, 20, 20), 49},
	} {
		n := merged(t, x.l...)
		if !buffer.Same(n.Wait, x.wait) || hist.Total(n.Past) != x.total || n.Past.Gen != 1 || n.Window != 100 {
			t.Errorf("%s: it is %v, want %v and %d", x.what, n, x.wait, x.total)
		}
		checkMade(t, n)
	}
	if n := merged(t, a, b); !slices.Equal(n.Past.Levels[0], tens) || len(n.Past.Levels) != 1 {
		t.Errorf("its past is %v", n.Past)
	}
}

// P14.4: what is old by the greatest Front goes only behind all that comes, also behind what goes out for want of room.
func TestMergeDropsBehind(t *testing.T) {
	none := begun(t, 2, 10, 20, 2)
	a := added(t, none, s(1, 1, 9, 1, 9, 1, 12, 1, 12, 1, 14, 1)...)
	expect(t, "the one with a past", a, of(10, waits(20, 2, 14, 12, at(14, 1)), past(2, 0, spans(9, 9, 12, 12, 12, 12), spans(1, 9))))
	a = added(t, none, s(1, 1, 9, 1, 9, 1, 12, 1, 14, 1)...)
	expect(t, "the one with a past", a, of(10, waits(20, 2, 14, 9, s(12, 1, 14, 1)...), past(2, 0, spans(1, 1, 9, 9, 9, 9))))
	idle := moved(t, none, 31)
	b := added(t, idle, s(12, 1, 13, 1)...)
	expect(t, "the other one", b, of(10, waits(20, 2, 31, 11, s(12, 1, 13, 1)...), past(2, 0)))
	expect(t, "nothing goes out", merged(t, a, idle), of(10, waits(20, 2, 31, 11, s(12, 1, 14, 1)...), past(2, 1, spans(9, 9, 9, 9))))
	want := of(10, waits(20, 2, 31, 12, s(13, 1, 14, 1)...), past(2, 1, spans(9, 9, 12, 12, 12, 12), spans(1, 9)))
	expect(t, "two go out", merged(t, a, b), want)
	expect(t, "two go out, in the other turn", merged(t, b, a), want)
	gone := merged(t, a, moved(t, none, 90))
	expect(t, "all is old", gone, of(10, waits(20, 2, 90, 70), past(2, 1)))
}

// P14.4: ErrConf, if they are not made alike, wherever the odd one stands.
func TestMergeOfUnlike(t *testing.T) {
	for _, odd := range []Sketch{
		begun(t, 3, 10, 2, 9), begun(t, 1024, 10, 2, 9),
		begun(t, 2, 11, 2, 9), begun(t, 2, 1<<62, 2, 9),
		begun(t, 2, 10, 3, 9), begun(t, 2, 10, 0, 9),
		begun(t, 2, 10, 2, 8), begun(t, 2, 10, 2, 1024),
		begun(t, 1024, 1, 0, 1),
	} {
		for _, odd := range []Sketch{odd, added(t, odd, s(5, 3, 8, 4)...), aged(t, 4, odd)} {
			for _, n := range []Sketch{made(t), made(t, s(5, 3, 8, 4)...), aged(t, 4, made(t, s(5, 1<<52)...))} {
				for many := 1; many < 4; many++ {
					for i := range many + 1 {
						refusedMerge(t, "an odd one", api.ErrConf, slices.Insert(slices.Repeat([]Sketch{n}, many), i, odd)...)
					}
				}
			}
			if _, e := Merge(odd, odd); (e != api.OK) != (odd.Past.Gen == 4) {
				t.Errorf("with itself it tells %d", e)
			}
		}
	}
}

// P14.4: Gen is 1 more than the greatest one; ErrGen, if one's is 4, wherever it stands.
func TestMergeOfGen(t *testing.T) {
	for _, n := range []Sketch{made(t), made(t, s(5, 3, 8, 4)...)} {
		for gen := range api.MaxGen + 1 {
			old := aged(t, gen, n)
			if old.Past.Gen != gen {
				t.Fatalf("Gen is %d, not %d", old.Past.Gen, gen)
			}
			for many := range 4 {
				for i := range many + 1 {
					l := slices.Insert(slices.Repeat([]Sketch{n}, many), i, old)
					if gen == api.MaxGen {
						refusedMerge(t, "4", api.ErrGen, l...)
					} else if m := merged(t, l...); m.Past.Gen != gen+1 {
						t.Errorf("of %d Gen is %d", gen, m.Past.Gen)
					}
				}
			}
			// It goes on as any other one.
			if on := moved(t, added(t, old, at(9, 1)), 11); on.Past.Gen != gen || on.Past.K != 2 {
				t.Errorf("its Gen is %d, not %d", on.Past.Gen, gen)
			}
		}
	}
}

// P14.4: all that waits and all that is past, together, the most that may be, and more, whole.
func TestMergeOfTooMuch(t *testing.T) {
	long := begun(t, 2, 1<<62, 2, 9)
	for _, c := range [][]Sketch{
		{added(t, long, s(5, 1<<52)...)},
		{moved(t, added(t, long, s(5, 1<<52)...), 90)},
		{added(t, long, s(5, 1<<52-7, 9, 7)...)},
		{added(t, long, s(5, 1<<51)...), added(t, long, s(9, 1<<51)...)},
		{moved(t, added(t, long, s(5, 1<<51)...), 90), added(t, long, s(9, 1<<51-1, 10, 1)...)},
		{moved(t, added(t, long, s(5, 1<<51)...), 90), moved(t, added(t, long, s(5, 1<<51)...), 80)},
		{added(t, long, s(5, 3, 9, 1<<51)...), added(t, long, s(5, 2, 5, 1<<50, 9, 1<<50-5)...)},
	} {
		for l := range turns(append(c, long)) {
			n := merged(t, l...)
			checkMade(t, n)
			if have := buffer.Weight(n.Wait) + hist.Total(n.Past); have != 1<<52 {
				t.Errorf("it weighs %d", have)
			}
		}
		for _, more := range []Sketch{added(t, long, s(5, 1)...), moved(t, added(t, long, s(5, 1)...), 50), added(t, long, s(5, 1<<52)...)} {
			for l := range turns(append(c, more)) {
				refusedMerge(t, "more", api.ErrOver, l...)
			}
		}
	}
	full := added(t, long, s(5, 1<<52)...)
	refusedMerge(t, "2^64, so that it wraps", api.ErrOver, slices.Repeat([]Sketch{full}, 1<<12)...)
	refusedMerge(t, "2^64 and a bit, so that it wraps", api.ErrOver, append(slices.Repeat([]Sketch{full}, 1<<12), added(t, long, s(5, 1)...))...)
	refusedMerge(t, "also what is old by another one's Front", api.ErrOver, added(t, begun(t, 2, 10, 2, 9), s(5, 1<<52)...), added(t, begun(t, 2, 10, 2, 9), s(500, 1)...))
}

// P14.4, R1: which error is told where several apply.
func TestMergeOfSeveral(t *testing.T) {
	full := made(t, s(5, 1<<52)...)
	old := aged(t, 4, full)
	other := begun(t, 3, 10, 2, 9)
	refusedMerge(t, "unlike, and Gen 4", api.ErrConf, old, other)
	refusedMerge(t, "Gen 4, and unlike", api.ErrConf, old, aged(t, 4, other))
	refusedMerge(t, "unlike, and too much", api.ErrConf, full, full, other)
	refusedMerge(t, "Gen 4, and too much", api.ErrGen, full, full, old)
	refusedMerge(t, "too much, and Gen 4", api.ErrGen, old, full)
	refusedMerge(t, "all three", api.ErrConf, full, old, other)
	refusedMerge(t, "too much alone", api.ErrOver, full, aged(t, 3, full))
}

// P14.4: by chance, of many confs, held against the chapter's words.
func TestMergeByWords(t *testing.T) {
	confs(t, func(n Sketch, d *dice) {
		var l []Sketch
		for range 2 + d.below(3) {
			l = append(l, d.filled(t, n, int(d.below(60))))
		}
		for gen := range api.MaxGen {
			want := plainMerge(t, l...)
			for list := range turns(l[:min(len(l), 3)]) {
				all := slices.Concat(list, l[min(len(l), 3):])
				m, again := merged(t, all...), plainMerge(t, all...)
				expect(t, "by the words", m, again)
				checkMade(t, m)
				if m.Past.Gen != gen+1 || !hist.Same(m.Past, want.Past) || m.Wait.Front != want.Wait.Front || m.Wait.Mark != want.Wait.Mark || !slices.EqualFunc(m.Wait.Events, want.Wait.Events, func(a, b api.Event) bool { return a.Tick == b.Tick }) {
					t.Fatalf("in another turn it is %v, not %v", m, want)
				}
			}
			l[d.below(uint64(len(l)))] = d.filled(t, merged(t, l...), 20)
		}
	})
}

// P14.4: in whatever turn they are handed in a query tells the same.
func TestQueryOfAnyTurn(t *testing.T) {
	confs(t, func(n Sketch, d *dice) {
		l := []Sketch{d.filled(t, n, 40), d.filled(t, n, 5), aged(t, 2, d.filled(t, n, 30))}
		first := merged(t, l...)
		for list := range turns(l) {
			m := merged(t, list...)
			if !slices.Equal(ticks(m), ticks(first)) {
				t.Fatalf("Front and Mark are %v, not %v", m.Wait, first.Wait)
			}
			for _, tick := range ticks(m) {
				for _, span := range lengths(m) {
					expectQuery(t, "in another turn", m, tick, span, asked(t, first, tick, span), api.OK)
				}
			}
		}
	})
}

// P14.4: Same of two that are, and of two that differ in each field alone.
func TestSame(t *testing.T) {
	build := func() Sketch {
		return of(10, waits(2, 9, 8, 6, s(7, 1, 8, 4)...), past(2, 1, spans(5, 5, 6, 6), spans(1, 4)))
	}
	for _, n := range []Sketch{build(), made(t), made(t, s(5, 3, 8, 4)...), {}} {
		if !Same(n, n) {
			t.Errorf("%v isn't the same as itself", n)
		}
	}
	if !Same(build(), build()) {
		t.Errorf("two that are built alike are not the same")
	}
	for i, change := range []func(n *Sketch){
		func(n *Sketch) { n.Window++ },
		func(n *Sketch) { n.Window = 0 },
		func(n *Sketch) { n.Wait.Late++ },
		func(n *Sketch) { n.Wait.Room++ },
		func(n *Sketch) { n.Wait.Mark++ },
		func(n *Sketch) { n.Wait.Front-- },
		func(n *Sketch) { n.Wait.Events = nil },
		func(n *Sketch) { n.Wait.Events = n.Wait.Events[:1] },
		func(n *Sketch) { n.Wait.Events[0].Tick++ },
		func(n *Sketch) { n.Wait.Events[1].Key++ },
		func(n *Sketch) { n.Wait.Events[1].Weight++ },
		func(n *Sketch) { n.Past.K++ },
		func(n *Sketch) { n.Past.Gen++ },
		func(n *Sketch) { n.Past.Levels = nil },
		func(n *Sketch) { n.Past.Levels = n.Past.Levels[:1] },
		func(n *Sketch) { n.Past.Levels[1] = nil },
		func(n *Sketch) { n.Past.Levels[0][0].From-- },
		func(n *Sketch) { n.Past.Levels[1][0].To++ },
	} {
		n := build()
		change(&n)
		if Same(n, build()) || Same(build(), n) {
			t.Errorf("the change %d is not seen", i)
		}
	}
}

// R2: nil and empty are the same, handed in and compared.
func TestNilAndEmpty(t *testing.T) {
	a := made(t)
	b := a
	b.Wait.Events, b.Past.Levels = []api.Event{}, [][]api.Span{}
	a.Wait.Events, a.Past.Levels = nil, nil
	if !Same(a, b) || !Same(b, a) {
		t.Errorf("they are not the same")
	}
	expect(t, "an event", added(t, a, at(5, 3)), added(t, b, at(5, 3)))
	expect(t, "a move", moved(t, a, 5), moved(t, b, 5))
	expect(t, "a merge", merged(t, a, b), merged(t, b, b))
	expectQuery(t, "nil", a, 5, 5, 0, api.OK)
	expectQuery(t, "empty", b, 5, 5, 0, api.OK)
}

// limits are both sides of both bounds of the theorem: the first of each two is no more than the second.
func limits(k, gen int, n, told uint64) [4]*big.Int {
	power := func(base, e int) *big.Int {
		return new(big.Int).Exp(big.NewInt(int64(base)), big.NewInt(int64(e)), nil)
	}
	times := func(a, b *big.Int) *big.Int { return new(big.Int).Mul(a, b) }
	return [4]*big.Int{
		times(big.NewInt(int64(k-1)), number(n)),
		times(big.NewInt(int64(k)), number(told)),
		times(power(k, gen+1), number(told)),
		times(times(big.NewInt(int64(k+1)), power(k+2, gen)), number(n)),
	}
}

// checkBounds tells what is wrong, if the theorem doesn't hold of a tick and a span.
func (n known) checkBounds(t *testing.T, tick, span uint64) {
	t.Helper()
	came, told := n.came(tick, span), asked(t, n.n, tick, span)
	l := limits(n.n.Past.K, n.n.Past.Gen, came, told)
	if l[0].Cmp(l[1]) > 0 || l[2].Cmp(l[3]) > 0 {
		t.Fatalf("of K %d, Gen %d, the tick %d and the span %d %d came within, but Query tells %d", n.n.Past.K, n.n.Past.Gen, tick, span, came, told)
	}
}

// checkAll asks for the bounds of several ticks, at spans that reach just to each tick of which something came, and beside it.
func (n known) checkAll(t *testing.T) {
	t.Helper()
	checkMade(t, n.n)
	for _, tick := range ticks(n.n) {
		for _, span := range lengths(n.n) {
			n.checkBounds(t, tick, span)
		}
		for _, e := range n.all {
			for _, span := range []uint64{tick - e.Tick, tick - e.Tick + 1} {
				if e.Tick <= tick && span > 0 && span <= n.n.Window {
					n.checkBounds(t, tick, span)
				}
			}
		}
	}
}

// P14.5, P4: of sketches that were not merged, merged once, twice, and as often as may be, with late events, and events between.
func TestTheorem(t *testing.T) {
	confs(t, func(n Sketch, d *dice) {
		l := []known{{n: n}, {n: n}, {n: n}}
		for i := range l {
			l[i] = l[i].filled(t, d, 20+i*25)
			l[i].checkAll(t)
		}
		once := joined(t, l[0], l[1])
		once.checkAll(t)
		once = once.filled(t, d, 25)
		once.checkAll(t)
		twice := joined(t, l[2], once)
		twice.checkAll(t)
		twice = twice.filled(t, d, 25)
		twice.checkAll(t)
		most := joined(t, joined(t, twice, l[1]), once)
		if most.n.Past.Gen != api.MaxGen {
			t.Fatalf("its Gen is %d", most.n.Past.Gen)
		}
		most.filled(t, d, 10).checkAll(t)
	})
}

// P14.5: at great weights, up to the greatest.
func TestTheoremOfGreatWeights(t *testing.T) {
	for _, k := range []int{2, 3, 9, 1024} {
		for _, late := range []uint64{0, 3, 50} {
			n := known{n: begun(t, k, 200, late, 8)}
			other := n
			for i := range uint64(44) {
				n = n.did(t, at(10+3*i, 1<<i+i%2))
				other = other.did(t, at(20+2*i, 1<<(44-i)-i%2))
				n = n.did(t, at(10+3*i-min(late, 2), 5))
			}
			n.checkAll(t)
			other.checkAll(t)
			n = joined(t, n, other)
			n.checkAll(t)
			n = joined(t, other, n)
			n.checkAll(t)
			rest := 1<<52 - buffer.Weight(n.n.Wait) - hist.Total(n.n.Past)
			n = n.did(t, at(n.n.Wait.Mark+1, rest))
			n.checkAll(t)
			n = n.did(t, deed{Tick: n.n.Wait.Mark + 150})
			n.checkAll(t)
		}
	}
}

// P14.5, P6: of many events of weight 1, by tick, in a short window, so that again and again some are dropped.
func TestTheoremOfUnits(t *testing.T) {
	for _, k := range []int{2, 3, 5, 8} {
		for _, late := range []uint64{0, 6} {
			n := known{n: begun(t, k, 100, late, 5)}
			for i := range uint64(700) {
				n = n.did(t, at(i+100-min(late, i*7%8), 1))
				checkMade(t, n.n)
				if i%50 == 49 {
					for span := range uint64(100) {
						n.checkBounds(t, n.n.Wait.Mark, span+1)
						n.checkBounds(t, n.n.Wait.Front, span+1)
					}
				}
			}
		}
	}
}

// P7: too much is refused only where 32 times what came, and isn't old, is too much.
func TestRefusedOnlyOfMuch(t *testing.T) {
	for _, k := range []int{2, 3, 9} {
		for _, late := range []uint64{0, 9} {
			d := &dice{uint64(k) + late}
			n := known{n: begun(t, k, 30, late, 6)}
			refused := 0
			for i := range uint64(600) {
				if i%150 == 149 && n.n.Past.Gen < api.MaxGen {
					n = joined(t, n, known{n: begun(t, k, 30, late, 6)})
				}
				e := at(100+i-min(late, d.below(4)), 1+d.below(1<<30)<<d.below(23))
				next, errno := Add(n.n, e)
				if errno == api.OK {
					n.n, n.all = next, append(n.all, e)
					continue
				}
				refused++
				left := new(big.Int).Mul(big.NewInt(32), number(e.Weight))
				for _, old := range n.all {
					if !expiry.Old(old.Tick, n.n.Wait.Front, 30) {
						left.Add(left, new(big.Int).Mul(big.NewInt(32), number(old.Weight)))
					}
				}
				if errno == api.ErrOver && left.Cmp(number(1<<52)) <= 0 {
					t.Fatalf("of K %d %v is refused, of %v", k, e, n)
				}
			}
			if refused < 10 {
				t.Errorf("only %d are refused", refused)
			}
		}
	}
}

// room is a sketch whose lists have room behind them, that isn't empty.
func room(n Sketch) Sketch {
	n.Wait.Events = slices.Concat(n.Wait.Events, s(111, 1, 222, 2))[:len(n.Wait.Events)]
	var levels [][]api.Span
	for _, l := range n.Past.Levels {
		levels = append(levels, slices.Concat(l, spans(7, 7, 9, 9))[:len(l)])
	}
	n.Past.Levels = append(levels, spans(3, 3), spans(4, 4))[:len(levels)]
	return n
}

// whole is a sketch with all that stands in its lists and behind them, as a copy.
func whole(n Sketch) Sketch {
	n.Wait.Events = slices.Clone(n.Wait.Events[:cap(n.Wait.Events)])
	levels := slices.Clone(n.Past.Levels[:cap(n.Past.Levels)])
	for i, l := range levels {
		levels[i] = slices.Clone(l[:cap(l)])
	}
	n.Past.Levels = levels
	return n
}

// keeper keeps sketches, as they are and as they were.
type keeper struct{ now, then []Sketch }

// keep is a sketch that is kept.
func (k *keeper) keep(n Sketch) Sketch {
	k.now, k.then = append(k.now, n), append(k.then, whole(n))
	return n
}

// expect tells whether one was written into.
func (k *keeper) expect(t *testing.T, what string) {
	t.Helper()
	for i, n := range k.now {
		if now := whole(n); !equal(now, k.then[i]) {
			t.Fatalf("%s: %v was written into, and is %v", what, k.then[i], now)
		}
	}
}

// R3, R4: no call writes into what was handed in, nor behind it, nor into what was told before; asked again it tells the same.
func TestNothingIsWritten(t *testing.T) {
	confs(t, func(n Sketch, d *dice) {
		var k keeper
		told := []Sketch{k.keep(room(n))}
		for range 40 {
			// From any of the last ones, so that several go on from one.
			from := told[max(0, len(told)-1-int(d.below(4)))]
			e := d.deed(from)
			next := do(t, from, e)
			Add(from, at(from.Wait.Mark, most))
			Move(from, 1<<63)
			Query(from, from.Wait.Mark, 1)
			Same(from, next)
			l := []Sketch{from, k.keep(room(next)), from, made(t)}
			before := slices.Clone(l)
			m := merged(t, l[:3]...)
			Merge(l...)
			do(t, m, d.deed(m))
			for i := range l {
				expect(t, "the list that was handed in", l[i], before[i])
			}
			expect(t, "once more", do(t, from, e), next)
			expect(t, "merged once more", merged(t, l[:3]...), m)
			k.keep(m)
			told = append(told, k.keep(next), k.keep(room(next)))
		}
		k.expect(t, "handed in, or told before")
	})
}

// P1: whatever a sketch is, no call panics, all end, and beside an error nothing is told.
func TestAnything(t *testing.T) {
	numbers := []uint64{0, 1, 5, 1 << 62, 1<<63 - 1, 1 << 63, most}
	odd := spans(9, 1, most, most, 0, 0, 5, 1<<63)
	levels := [][][]api.Span{nil, {nil}, {odd}, {spans(5, 5, 7, 7)}, {nil, odd, nil}, slices.Repeat([][]api.Span{odd}, 80), append(make([][]api.Span, 63), spans(1, 1, 1, 1))}
	events := [][]api.Event{nil, {{}}, s(9, 1, 5, 2, 7, most), s(most, most, 0, 1, 1<<63, 1<<52)}
	quiet := func(n Sketch, e api.Errno) {
		t.Helper()
		if e != api.OK && !empty(n) {
			t.Fatalf("beside %d it tells %v", e, n)
		}
	}
	d := &dice{3}
	one := func() uint64 { return numbers[d.below(uint64(len(numbers)))] }
	for _, level := range levels {
		for _, list := range events {
			for _, k := range []int{math.MinInt, -1, 0, 1, 2, 1024, 1025, math.MaxInt} {
				for _, window := range numbers {
					for _, late := range numbers {
						rooms := []int{math.MinInt, -1, 0, 1, 2, 1024, math.MaxInt}
						n := of(window, waits(late, rooms[d.below(7)], one(), one(), list...), past(k, int(one()), level...))
						for _, tick := range numbers {
							quiet(Add(n, api.Event{Tick: tick, Weight: one()}))
							quiet(Move(n, tick))
							if told, e := Query(n, tick, one()); e != api.OK && told != 0 {
								t.Fatalf("beside %d it tells %d", e, told)
							}
						}
						n.Past.Gen = int(d.below(6)) - 1
						quiet(Merge(n))
						quiet(Merge(n, n))
						quiet(Merge(n, made(t)))
						if !Same(n, n) {
							t.Fatalf("%v isn't the same as itself", n)
						}
					}
				}
			}
		}
	}
}

// P1: what was told with an error, the zero sketch, goes on without a panic, too.
func TestZero(t *testing.T) {
	n, _ := Add(made(t), api.Event{})
	expect(t, "with an error", n, Sketch{})
	if told, e := Add(n, at(7, 1)); e == api.OK || !empty(told) {
		t.Errorf("an event tells %v, %d", told, e)
	}
	expectMove(t, "a move", n, 7, of(0, waits(0, 0, 7, 7), hist.Hist{}))
	expectQuery(t, "a query", n, 7, 1, 0, api.ErrSpan)
	refusedMerge(t, "a merge", api.ErrConf, n, n)
}
