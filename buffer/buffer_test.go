package buffer

import (
	"iter"
	"math"
	"math/big"
	"slices"
	"testing"

	"skylight/api"
)

// at is an event of a tick and a key; its weight tells nothing of the turn.
func at(tick, key uint64) api.Event {
	return api.Event{Tick: tick, Key: key, Weight: 1 + (tick*7+key*3)%11}
}

// s is events by their ticks and keys.
func s(pairs ...uint64) []api.Event {
	var l []api.Event
	for pair := range slices.Chunk(pairs, 2) {
		l = append(l, at(pair[0], pair[1]))
	}
	return l
}

// of is a buffer of these.
func of(late uint64, room int, mark, front uint64, events ...api.Event) Buf {
	return Buf{Late: late, Room: room, Mark: mark, Front: front, Events: events}
}

// made is a buffer to which some came, and all that went out of it.
func made(t *testing.T, late uint64, room int, events ...api.Event) (Buf, []api.Event) {
	t.Helper()
	b, e := New(late, room)
	if e != api.OK {
		t.Fatalf("New(%d, %d) tells %d", late, room, e)
	}
	return added(t, b, events...)
}

// added is a buffer to which some more came, and all that went out meanwhile.
func added(t *testing.T, b Buf, events ...api.Event) (Buf, []api.Event) {
	t.Helper()
	var all []api.Event
	for _, event := range events {
		next, out, e := Push(b, event)
		if e != api.OK {
			t.Fatalf("Push(%v, %v) tells %d", b, event, e)
		}
		b, all = next, append(all, out...)
	}
	return b, all
}

// moved is a buffer whose time went on, and what went out.
func moved(t *testing.T, b Buf, tick uint64) (Buf, []api.Event) {
	t.Helper()
	b, out, e := Move(b, tick)
	if e != api.OK {
		t.Fatalf("Move(.., %d) tells %d", tick, e)
	}
	return b, out
}

// alike tells whether two buffers are, field by field, without Same.
func alike(a, b Buf) bool {
	return a.Late == b.Late && a.Room == b.Room && a.Mark == b.Mark && a.Front == b.Front && slices.Equal(a.Events, b.Events)
}

// empty tells whether a buffer is the zero one.
func empty(b Buf) bool { return alike(b, Buf{}) }

// expect tells what is wrong of a buffer and what went out.
func expect(t *testing.T, what string, b Buf, out []api.Event, want Buf, wantOut []api.Event) {
	t.Helper()
	if !alike(b, want) {
		t.Errorf("%s: the buffer is %v, want %v", what, b, want)
	}
	if !slices.Equal(out, wantOut) {
		t.Errorf("%s: there go out %v, want %v", what, out, wantOut)
	}
}

// expectPush asks Push, and tells what is wrong.
func expectPush(t *testing.T, what string, b Buf, e api.Event, want Buf, wantOut []api.Event) {
	t.Helper()
	n, out, errno := Push(b, e)
	if errno != api.OK {
		t.Errorf("%s: Push tells %d", what, errno)
	}
	expect(t, what, n, out, want, wantOut)
}

// expectMove asks Move, and tells what is wrong.
func expectMove(t *testing.T, what string, b Buf, tick uint64, want Buf, wantOut []api.Event) {
	t.Helper()
	n, out, errno := Move(b, tick)
	if errno != api.OK {
		t.Errorf("%s: Move tells %d", what, errno)
	}
	expect(t, what, n, out, want, wantOut)
}

// expectError asks Push for an error, with nothing beside it.
func expectError(t *testing.T, what string, b Buf, e api.Event, want api.Errno) {
	t.Helper()
	if n, out, errno := Push(b, e); errno != want || !empty(n) || len(out) > 0 {
		t.Errorf("%s: Push tells %v, %v, %d, want %d", what, n, out, errno, want)
	}
}

// plainPush is what Push should tell, where nothing is wrong, by the chapter's words.
func plainPush(b Buf, e api.Event) (Buf, []api.Event) {
	b.Events = slices.Clone(b.Events)
	i := len(b.Events)
	for i > 0 && b.Events[i-1].Tick > e.Tick {
		i--
	}
	b.Events = slices.Insert(b.Events, i, e)
	return plainMove(b, e.Tick)
}

// plainMove is what Move should tell, where nothing is wrong, by the chapter's words: event by event, and with whole numbers.
func plainMove(b Buf, tick uint64) (Buf, []api.Event) {
	b.Events = slices.Clone(b.Events)
	if tick > b.Mark {
		b.Mark = tick
	}
	if big.NewInt(0).SetUint64(b.Mark).Cmp(sum(b.Front, b.Late)) > 0 {
		b.Front = b.Mark - b.Late
	}
	var out []api.Event
	leave := func() {
		for len(b.Events) > 0 && b.Events[0].Tick <= b.Front {
			out = append(out, b.Events[0])
			b.Events = b.Events[1:]
		}
	}
	leave()
	for len(b.Events) > b.Room {
		b.Front = b.Events[0].Tick
		leave()
	}
	return b, out
}

// plainJoin is what Join should tell, of one or more: tick by tick, the least one first, and of each in the turn of the buffers.
func plainJoin(l []Buf) (Buf, []api.Event) {
	b := Buf{Late: l[0].Late, Room: l[0].Room}
	ticks := map[uint64]int{}
	for _, other := range l {
		if other.Mark > b.Mark {
			b.Mark = other.Mark
		}
		if other.Front > b.Front {
			b.Front = other.Front
		}
		for _, e := range other.Events {
			ticks[e.Tick]++
		}
	}
	var out []api.Event
	for len(ticks) > 0 {
		tick := uint64(math.MaxUint64)
		for other := range ticks {
			tick = min(tick, other)
		}
		delete(ticks, tick)
		for _, other := range l {
			for _, e := range other.Events {
				if e.Tick != tick {
					continue
				}
				if tick <= b.Front {
					out = append(out, e)
				} else {
					b.Events = append(b.Events, e)
				}
			}
		}
	}
	return b, out
}

// sum is two numbers together, whole.
func sum(a, b uint64) *big.Int {
	n := big.NewInt(0).SetUint64(a)
	return n.Add(n, big.NewInt(0).SetUint64(b))
}

// mayBe tells whether a buffer may be, by the chapter's words and whole numbers.
func mayBe(b Buf) api.Errno {
	if b.Late > 1<<62 || b.Room < 1 || b.Room > 1024 {
		return api.ErrConf
	}
	wrong := len(b.Events) > b.Room || b.Front > b.Mark || b.Mark > 1<<63-1 || big.NewInt(0).SetUint64(b.Mark).Cmp(sum(b.Front, b.Late)) > 0
	for i, e := range b.Events {
		wrong = wrong || e.Weight < 1 || e.Tick <= b.Front || e.Tick > b.Mark || i > 0 && e.Tick < b.Events[i-1].Tick
	}
	if wrong {
		return api.ErrForm
	}
	return api.OK
}

// dice tell numbers that look as if by chance, the same each time.
type dice struct{ state uint64 }

// below is a number below another one.
func (d *dice) below(n uint64) uint64 {
	d.state = d.state*6364136223846793005 + 1442695040888963407
	return d.state >> 33 % n
}

// kept is something that was handed in or told, and how it was.
type kept struct{ now, then []api.Event }

// keeper keeps lists, also what stands behind them, to see whether they are written into.
type keeper struct{ all []kept }

// keep is that list, kept.
func (k *keeper) keep(l []api.Event) []api.Event {
	full := l[:cap(l)]
	k.all = append(k.all, kept{full, slices.Clone(full)})
	return l
}

// expect tells whether one was written into.
func (k *keeper) expect(t *testing.T, what string) {
	t.Helper()
	for _, l := range k.all {
		if !slices.Equal(l.now, l.then) {
			t.Fatalf("%s: %v was written over, and is %v", what, l.then, l.now)
		}
	}
}

// roomy is a buffer whose events stand in a list with room behind them, that isn't empty.
func roomy(b Buf) Buf {
	l := slices.Concat(b.Events, s(111, 1, 222, 2, 333, 3))
	b.Events = l[:len(b.Events)]
	return b
}

// lates are how late events may come: the least and the greatest one, few and many.
func lates() []uint64 { return []uint64{0, 1, 2, 5, 20, 1000, api.MaxSpan - 1, api.MaxSpan} }

// rooms are how many events may wait: the least and the greatest one, few and many.
func rooms() []int { return []int{1, 2, 3, 8, 40, api.MaxRoom - 1, api.MaxRoom} }

// deed is a push, or, if the weight is 0, a move to the tick.
type deed = api.Event

// deeds are pushes and moves by chance, such as don't come too late for a buffer that did all ahead of them.
func (d *dice) deeds(late uint64, room, many int) iter.Seq2[Buf, deed] {
	return func(yield func(Buf, deed) bool) {
		b := of(late, room, 0, 0)
		for i := range many {
			e := deed{Tick: b.Front + d.below(1+min(late, 50)+d.below(5)), Key: uint64(i), Weight: 1 + d.below(9)}
			if d.below(6) == 0 {
				e = deed{Tick: d.below(b.Mark + 4)}
			}
			if !yield(b, e) {
				return
			}
			if e.Weight == 0 {
				b, _ = plainMove(b, e.Tick)
			} else {
				b, _ = plainPush(b, e)
			}
		}
	}
}

// do does a deed.
func do(t *testing.T, b Buf, e deed) (Buf, []api.Event) {
	t.Helper()
	if e.Weight == 0 {
		return moved(t, b, e.Tick)
	}
	return added(t, b, e)
}

// each calls with buffers that may be, of all lates and rooms: what deeds made, at each step, and what comes then.
func each(call func(b Buf, e deed)) {
	for i, late := range lates() {
		for j, room := range rooms() {
			d := &dice{uint64(i*100 + j)}
			for b, e := range d.deeds(late, room, 60) {
				call(b, e)
			}
		}
	}
}

// The example of the chapter.
func TestExample(t *testing.T) {
	b, e := New(2, 9)
	if e != api.OK {
		t.Fatalf("New tells %d", e)
	}
	five, four, eight := at(5, 1), at(4, 2), at(8, 3)
	expectPush(t, "5", b, five, of(2, 9, 5, 3, five), nil)
	b, _ = added(t, b, five)
	expectPush(t, "4", b, four, of(2, 9, 5, 3, four, five), nil)
	b, _ = added(t, b, four)
	expectPush(t, "8", b, eight, of(2, 9, 8, 6, eight), []api.Event{four, five})
}

// P12.1: each bound of late and room, and 1 beyond it.
func TestNew(t *testing.T) {
	for _, late := range append(lates(), 1<<62-1, 1<<62) {
		for _, room := range append(rooms(), 1, 1024) {
			b, e := New(late, room)
			if e != api.OK || !alike(b, of(late, room, 0, 0)) {
				t.Errorf("New(%d, %d) tells %v, %d", late, room, b, e)
			}
			if May(b) != api.OK || Weight(b) != 0 {
				t.Errorf("%v may not be, or weighs something", b)
			}
		}
	}
}

// P12.1: ErrConf, with nothing beside it.
func TestNewOfWrong(t *testing.T) {
	wrongLates := []uint64{1<<62 + 1, 1 << 63, 1<<63 + 5, math.MaxUint64}
	wrongRooms := []int{0, -1, -1024, math.MinInt, 1025, 2048, math.MaxInt}
	wrong := func(late uint64, room int) {
		t.Helper()
		if b, e := New(late, room); e != api.ErrConf || !empty(b) {
			t.Errorf("New(%d, %d) tells %v, %d", late, room, b, e)
		}
	}
	for _, late := range wrongLates {
		for _, room := range rooms() {
			wrong(late, room)
		}
	}
	for _, room := range wrongRooms {
		for _, late := range append(lates(), wrongLates...) {
			wrong(late, room)
		}
	}
}

// P12.2: ErrArg of a Weight of 0; of no other one.
func TestPushOfWeight(t *testing.T) {
	for _, b := range []Buf{of(2, 9, 0, 0), of(2, 9, 8, 6, s(7, 1, 8, 2)...), of(0, 1, 8, 8)} {
		for _, tick := range []uint64{8, 9, 1<<63 - 1} {
			expectError(t, "no weight", b, api.Event{Tick: tick, Key: 5}, api.ErrArg)
			for _, weight := range []uint64{1, 2, 1 << 52, 1<<52 + 1, 1 << 63, math.MaxUint64} {
				e := api.Event{Tick: tick, Key: math.MaxUint64, Weight: weight}
				want, wantOut := plainPush(b, e)
				expectPush(t, "some weight", b, e, want, wantOut)
			}
		}
	}
}

// P12.2: ErrTick of a Tick above 2^63 less 1; not of that itself.
func TestPushOfTick(t *testing.T) {
	for _, b := range []Buf{of(2, 9, 0, 0), of(2, 9, 8, 6, s(7, 1, 8, 2)...), of(5, 1, 1<<63-1, 1<<63-3, s(1<<63-2, 1)...)} {
		for _, tick := range []uint64{1 << 63, 1<<63 + 1, math.MaxUint64} {
			expectError(t, "too great", b, at(tick, 5), api.ErrTick)
		}
		last := at(1<<63-1, 5)
		want, wantOut := plainPush(b, last)
		expectPush(t, "the last tick", b, last, want, wantOut)
	}
	expectPush(t, "the last tick by hand", of(2, 9, 8, 6, s(7, 1, 8, 2)...), at(1<<63-1, 5), of(2, 9, 1<<63-1, 1<<63-3, at(1<<63-1, 5)), s(7, 1, 8, 2))
	expectPush(t, "the first tick", of(2, 9, 0, 0), at(0, 5), of(2, 9, 0, 0), s(0, 5))
}

// P12.2: ErrLate of a Tick below Front; not at Front, where it goes out at once, nor above it.
func TestPushOfLate(t *testing.T) {
	b := of(4, 9, 8, 6, s(7, 1, 8, 2)...)
	for _, tick := range []uint64{0, 1, 4, 5} {
		expectError(t, "below Front", b, at(tick, 5), api.ErrLate)
	}
	expectPush(t, "at Front", b, at(6, 5), of(4, 9, 8, 6, s(7, 1, 8, 2)...), s(6, 5))
	expectPush(t, "above Front", b, at(7, 5), of(4, 9, 8, 6, s(7, 1, 7, 5, 8, 2)...), nil)
	expectPush(t, "none waits, at Front", of(4, 9, 8, 6), at(6, 5), of(4, 9, 8, 6), s(6, 5))
	expectError(t, "none waits, below Front", of(4, 9, 8, 6), at(5, 5), api.ErrLate)
	end := uint64(api.MaxTick)
	expectPush(t, "all went out, at the end", of(0, 1, end, end), at(end, 5), of(0, 1, end, end), s(end, 5))
	expectError(t, "all went out, ahead of the end", of(0, 1, end, end), at(end-1, 5), api.ErrLate)
}

// P12.2, R1: which error is told where several apply.
func TestPushOfSeveral(t *testing.T) {
	b := of(4, 9, 8, 6, s(7, 1, 8, 2)...)
	expectError(t, "no weight, too great", b, api.Event{Tick: 1 << 63}, api.ErrArg)
	expectError(t, "no weight, too late", b, api.Event{Tick: 5}, api.ErrArg)
	expectError(t, "the zero event", b, api.Event{}, api.ErrArg)
	// None that may be has such a Front: one that isn't asked for tells whether ErrTick stands ahead of ErrLate.
	beyond := of(4, 9, math.MaxUint64, math.MaxUint64)
	expectError(t, "too great, too late", beyond, at(1<<63, 5), api.ErrTick)
	expectError(t, "too late", beyond, at(1<<63-1, 5), api.ErrLate)
	expectError(t, "all three", beyond, api.Event{Tick: 1 << 63}, api.ErrArg)
}

// P12.2: it waits behind all whose Tick is no more than its own.
func TestPlace(t *testing.T) {
	waits := s(10, 1, 20, 2, 20, 3, 20, 4, 30, 5)
	b := of(100, 9, 30, 0, waits...)
	for _, c := range []struct {
		tick uint64
		want []api.Event
	}{
		{1, s(1, 9, 10, 1, 20, 2, 20, 3, 20, 4, 30, 5)},
		{9, s(9, 9, 10, 1, 20, 2, 20, 3, 20, 4, 30, 5)},
		{10, s(10, 1, 10, 9, 20, 2, 20, 3, 20, 4, 30, 5)},
		{11, s(10, 1, 11, 9, 20, 2, 20, 3, 20, 4, 30, 5)},
		{19, s(10, 1, 19, 9, 20, 2, 20, 3, 20, 4, 30, 5)},
		{20, s(10, 1, 20, 2, 20, 3, 20, 4, 20, 9, 30, 5)},
		{21, s(10, 1, 20, 2, 20, 3, 20, 4, 21, 9, 30, 5)},
		{30, s(10, 1, 20, 2, 20, 3, 20, 4, 30, 5, 30, 9)},
		{31, s(10, 1, 20, 2, 20, 3, 20, 4, 30, 5, 31, 9)},
	} {
		expectPush(t, "its place", b, at(c.tick, 9), of(100, 9, max(30, c.tick), 0, c.want...), nil)
	}
	expectPush(t, "alone", of(100, 9, 30, 0), at(7, 9), of(100, 9, 30, 0, at(7, 9)), nil)
}

// P12.2: of one tick the place hangs on nothing but when they came: not on key or weight.
func TestPlaceOfOneTick(t *testing.T) {
	events := []api.Event{{Tick: 5, Key: 9, Weight: 3}, {Tick: 5, Key: 1, Weight: 3}, {Tick: 5, Key: 9, Weight: 3}, {Tick: 5, Key: 9, Weight: 1}, {Tick: 5, Key: 0, Weight: 8}}
	b, out := made(t, 5, 9, events...)
	expect(t, "they wait", b, out, of(5, 9, 5, 0, events...), nil)
	b, out = moved(t, b, 10)
	expect(t, "they go out", b, out, of(5, 9, 10, 5), events)
}

// P12.2: Mark rises with a greater Tick, and stays with others.
func TestMark(t *testing.T) {
	for _, tick := range []uint64{6, 7, 30, 49, 50, 51, 90, 106, 1<<63 - 1} {
		b := of(100, 9, 50, 6)
		n, _ := added(t, b, at(tick, 1))
		m, _ := moved(t, b, tick)
		if want := max(50, tick); n.Mark != want || m.Mark != want {
			t.Errorf("with %d Mark is %d and %d", tick, n.Mark, m.Mark)
		}
	}
}

// P12.2: Mark less than Front and Late together, the same, and more.
func TestSettleByMark(t *testing.T) {
	waits := s(101, 1, 102, 2, 102, 3, 105, 4)
	b := of(10, 9, 108, 100, waits...)
	expectMove(t, "less", b, 109, of(10, 9, 109, 100, waits...), nil)
	expectMove(t, "the same", b, 110, of(10, 9, 110, 100, waits...), nil)
	expectMove(t, "1 more", b, 111, of(10, 9, 111, 101, waits[1:]...), waits[:1])
	expectMove(t, "2 more", b, 112, of(10, 9, 112, 102, waits[3:]...), waits[:3])
	expectMove(t, "between ticks", b, 114, of(10, 9, 114, 104, waits[3:]...), waits[:3])
	expectMove(t, "all", b, 115, of(10, 9, 115, 105), waits)
	expectMove(t, "far on", b, 1000, of(10, 9, 1000, 990), waits)
	expectPush(t, "less, by a push", b, at(109, 9), of(10, 9, 109, 100, append(slices.Clone(waits), at(109, 9))...), nil)
	expectPush(t, "the same, by a push", b, at(110, 9), of(10, 9, 110, 100, append(slices.Clone(waits), at(110, 9))...), nil)
	expectPush(t, "more, by a push", b, at(112, 9), of(10, 9, 112, 102, at(105, 4), at(112, 9)), waits[:3])
	expectPush(t, "far on, by a push", b, at(1000, 9), of(10, 9, 1000, 990, at(1000, 9)), waits)
}

// P12.2: with a Late of 0 nothing waits.
func TestLateOf0(t *testing.T) {
	b, out := made(t, 0, 9, s(0, 1, 0, 2, 5, 3, 5, 4, 9, 5)...)
	expect(t, "all go out at once", b, out, of(0, 9, 9, 9), s(0, 1, 0, 2, 5, 3, 5, 4, 9, 5))
	expectError(t, "1 too late", b, at(8, 1), api.ErrLate)
}

// P12.2: Front and Late together, whole: up to what two of the greatest make, and above what 64 bits bear.
func TestSettleOfGreat(t *testing.T) {
	const late, end = 1 << 62, 1<<63 - 1
	b := of(late, 9, 0, 0)
	expectMove(t, "1 less than Late", b, late-1, of(late, 9, late-1, 0), nil)
	expectMove(t, "Late", b, late, of(late, 9, late, 0), nil)
	expectMove(t, "1 more", b, late+1, of(late, 9, late+1, 1), nil)
	expectMove(t, "the end", b, end, of(late, 9, end, late-1), nil)
	expectPush(t, "the end, by a push", b, at(end, 1), of(late, 9, end, late-1, at(end, 1)), nil)
	b = of(late, 9, end, late-1, s(late, 1, end-1, 2)...)
	expectMove(t, "at the end", b, end, b, nil)
	expectPush(t, "behind the others", b, at(end, 3), of(late, 9, end, late-1, s(late, 1, end-1, 2, end, 3)...), nil)
	// A Room that lets nobody wait long brings Front near the end: there both together are above 2^63.
	b, out := made(t, late, 1, s(end-3, 1, end-2, 2, end-1, 3)...)
	expect(t, "near the end", b, out, of(late, 1, end-1, end-2, at(end-1, 3)), s(end-3, 1, end-2, 2))
	expectMove(t, "Front stays", b, end, of(late, 1, end, end-2, at(end-1, 3)), nil)
	expectPush(t, "Front goes with the first one", b, at(end, 4), of(late, 1, end, end-1, at(end, 4)), s(end-1, 3))
	// None that may be has such a Late or Front; whole numbers are meant of these, too.
	expectMove(t, "a sum above 64 bits", of(math.MaxUint64, 9, 9, 5, at(7, 1)), 20, of(math.MaxUint64, 9, 20, 5, at(7, 1)), nil)
	expectMove(t, "a Front above Mark", of(2, 9, 9, math.MaxUint64), 20, of(2, 9, 20, math.MaxUint64), nil)
}

// P12.2: more events than Room: the first ones go out, and all that have the last one's tick.
func TestSettleByRoom(t *testing.T) {
	b := of(100, 3, 30, 0, s(10, 1, 20, 2, 30, 3)...)
	expectPush(t, "behind all", b, at(40, 4), of(100, 3, 40, 10, s(20, 2, 30, 3, 40, 4)...), s(10, 1))
	expectPush(t, "between them", b, at(15, 4), of(100, 3, 30, 10, s(15, 4, 20, 2, 30, 3)...), s(10, 1))
	expectPush(t, "ahead of all", b, at(5, 4), of(100, 3, 30, 5, s(10, 1, 20, 2, 30, 3)...), s(5, 4))
	expectPush(t, "with the first one", b, at(10, 4), of(100, 3, 30, 10, s(20, 2, 30, 3)...), s(10, 1, 10, 4))
	b = of(100, 3, 30, 0, s(10, 1, 10, 2, 30, 3)...)
	expectPush(t, "two of one tick", b, at(40, 4), of(100, 3, 40, 10, s(30, 3, 40, 4)...), s(10, 1, 10, 2))
	b = of(100, 3, 30, 0, s(10, 1, 10, 2, 10, 3)...)
	expectPush(t, "all of one tick, and another one", b, at(11, 4), of(100, 3, 30, 10, at(11, 4)), s(10, 1, 10, 2, 10, 3))
	expectPush(t, "all of one tick", b, at(10, 4), of(100, 3, 30, 10), s(10, 1, 10, 2, 10, 3, 10, 4))
	b = of(100, 1, 30, 0)
	expectPush(t, "one alone", b, at(10, 4), of(100, 1, 30, 0, at(10, 4)), nil)
	b = of(100, 4, 30, 0, s(10, 1, 20, 2, 30, 3)...)
	expectPush(t, "just Room", b, at(10, 4), of(100, 4, 30, 0, s(10, 1, 10, 4, 20, 2, 30, 3)...), nil)
}

// P12.2: what goes out by Mark makes room: by Room nothing goes then.
func TestSettleByBoth(t *testing.T) {
	b := of(20, 3, 30, 10, s(11, 1, 20, 2, 30, 3)...)
	expectPush(t, "one goes by Mark", b, at(31, 4), of(20, 3, 31, 11, s(20, 2, 30, 3, 31, 4)...), s(11, 1))
	expectPush(t, "one goes by Mark, Front is beyond it", b, at(35, 4), of(20, 3, 35, 15, s(20, 2, 30, 3, 35, 4)...), s(11, 1))
	expectPush(t, "none goes by Mark, so one by Room", of(20, 3, 30, 10, s(12, 1, 20, 2, 30, 3)...), at(31, 4), of(20, 3, 31, 12, s(20, 2, 30, 3, 31, 4)...), s(12, 1))
	expectPush(t, "none goes by Room, at Front", b, at(10, 4), of(20, 3, 30, 10, s(11, 1, 20, 2, 30, 3)...), s(10, 4))
}

// P12.2: it is done again, as long as more wait than Room; so it is of joined ones.
func TestSettleAgain(t *testing.T) {
	waits := s(10, 1, 20, 2, 20, 3, 30, 4, 40, 5, 40, 6, 50, 7)
	for _, c := range []struct {
		room  int
		front uint64
		gone  int
	}{{9, 5, 0}, {7, 5, 0}, {6, 10, 1}, {5, 20, 3}, {4, 20, 3}, {3, 30, 4}, {2, 40, 6}, {1, 40, 6}} {
		b := of(100, c.room, 50, 5, waits...)
		want := of(100, c.room, 50, c.front, waits[c.gone:]...)
		expectMove(t, "again", b, 0, want, waits[:c.gone])
	}
	expectMove(t, "by Mark first", of(20, 3, 50, 5, waits...), 0, of(20, 3, 50, 30, s(40, 5, 40, 6, 50, 7)...), waits[:4])
	expectMove(t, "by Mark first, then by Room", of(30, 3, 50, 5, waits...), 0, of(30, 3, 50, 30, s(40, 5, 40, 6, 50, 7)...), waits[:4])
	expectPush(t, "by a push", of(100, 2, 50, 5, waits...), at(45, 8), of(100, 2, 50, 40, s(45, 8, 50, 7)...), waits[:6])
	one := s(10, 1, 10, 2, 10, 3, 10, 4)
	expectMove(t, "all of one tick", of(100, 1, 50, 5, one...), 0, of(100, 1, 50, 10), one)
}

// P12.2: Room is kept at its greatest, too.
func TestGreatestRoom(t *testing.T) {
	var events []api.Event
	for i := range uint64(api.MaxRoom) {
		events = append(events, at(5000-i, i))
	}
	b, out := made(t, 9000, api.MaxRoom, events...)
	slices.Reverse(events)
	expect(t, "as many as may be", b, out, of(9000, api.MaxRoom, 5000, 0, events...), nil)
	next, _ := added(t, b, at(4500, 9999))
	if len(next.Events) != api.MaxRoom || next.Front != 5000-api.MaxRoom+1 {
		t.Errorf("%d wait, Front is %d", len(next.Events), next.Front)
	}
	want, wantOut := plainPush(b, at(4500, 9999))
	expectPush(t, "one more", b, at(4500, 9999), want, wantOut)
}

// P12.2: Move below Mark, at it, above it, at the last tick and above that.
func TestMove(t *testing.T) {
	waits := s(7, 1, 8, 2)
	b := of(4, 9, 8, 6, waits...)
	for _, tick := range []uint64{0, 5, 6, 7, 8} {
		expectMove(t, "no further", b, tick, b, nil)
	}
	expectMove(t, "further, but not Front", b, 10, of(4, 9, 10, 6, waits...), nil)
	expectMove(t, "further", b, 11, of(4, 9, 11, 7, waits[1:]...), waits[:1])
	expectMove(t, "to the end", b, 1<<63-1, of(4, 9, 1<<63-1, 1<<63-5), waits)
	expectMove(t, "none waits", of(4, 9, 8, 6), 20, of(4, 9, 20, 16), nil)
	for _, tick := range []uint64{1 << 63, 1<<63 + 1, math.MaxUint64} {
		for _, b := range []Buf{b, of(4, 9, 0, 0)} {
			if n, out, e := Move(b, tick); e != api.ErrTick || !empty(n) || len(out) > 0 {
				t.Errorf("Move(.., %d) tells %v, %v, %d", tick, n, out, e)
			}
		}
	}
}

// P12.2, P12.4, P6: held against the chapter's words, event by event; each that is told may be, and has no more events than Room.
func TestDeeds(t *testing.T) {
	each(func(b Buf, e deed) {
		if e.Weight == 0 {
			want, wantOut := plainMove(b, e.Tick)
			expectMove(t, "a move", b, e.Tick, want, wantOut)
		} else {
			want, wantOut := plainPush(b, e)
			expectPush(t, "a push", b, e, want, wantOut)
		}
		n, _ := do(t, b, e)
		if May(n) != api.OK || len(n.Events) > n.Room || n.Front < b.Front || n.Mark < b.Mark {
			t.Errorf("%v and %v: %v", b, e, n)
		}
	})
}

// P12.2, P12.4: ticks of all sizes, up to the last one, and Lates of all sizes, held against the chapter's words.
func TestGreatDeeds(t *testing.T) {
	for i, late := range []uint64{0, 7, 1 << 31, 1 << 40, 1 << 60, 1<<62 - 1, 1 << 62} {
		for _, room := range []int{1, 3, 50} {
			d := &dice{uint64(i*100 + room)}
			b, _ := made(t, late, room)
			for key := range uint64(200) {
				further := min(d.below(1<<31)<<d.below(33), api.MaxTick-b.Front)
				e := deed{Tick: b.Front + further>>d.below(64), Key: key, Weight: d.below(4)}
				want, wantOut := plainPush(b, e)
				if e.Weight == 0 {
					want, wantOut = plainMove(b, e.Tick)
				}
				n, out := do(t, b, e)
				expect(t, "great ones", n, out, want, wantOut)
				if May(n) != api.OK {
					t.Fatalf("%v may not be", n)
				}
				b = n
			}
		}
	}
}

// P12.2: what is told by errors, where a buffer did much.
func TestErrorsOfDeeds(t *testing.T) {
	each(func(b Buf, _ deed) {
		expectError(t, "no weight", b, api.Event{Tick: b.Mark}, api.ErrArg)
		expectError(t, "too great", b, at(1<<63, 1), api.ErrTick)
		if b.Front > 0 {
			expectError(t, "too late", b, at(b.Front-1, 1), api.ErrLate)
			expectError(t, "far too late", b, at(0, 1), api.ErrLate)
		}
	})
}

// P12.3: none weighs nothing, several weigh what they weigh together, and the sum wraps.
func TestWeight(t *testing.T) {
	weights := func(all ...uint64) Buf {
		b := of(9, 9, 5, 3)
		for _, weight := range all {
			b.Events = append(b.Events, api.Event{Tick: 4, Key: 100, Weight: weight})
		}
		return b
	}
	for _, c := range []struct {
		b    Buf
		want uint64
	}{
		{weights(), 0},
		{Buf{Events: []api.Event{}}, 0},
		{weights(1), 1},
		{weights(1, 1, 1), 3},
		{weights(7, 1<<52, 30), 1<<52 + 37},
		{weights(math.MaxUint64), math.MaxUint64},
		{weights(math.MaxUint64, 1), 0},
		{weights(math.MaxUint64, 2), 1},
		{weights(1<<63, 5, 1<<63), 5},
		{weights(math.MaxUint64, math.MaxUint64, math.MaxUint64), math.MaxUint64 - 2},
	} {
		if n := Weight(c.b); n != c.want {
			t.Errorf("Weight(%v) is %d, want %d", c.b, n, c.want)
		}
	}
}

// P12.3: each field of a buffer, and of each of its events, is asked.
func TestSame(t *testing.T) {
	three := func() Buf { return of(4, 9, 8, 6, s(7, 1, 8, 2, 8, 3)...) }
	same := func(what string, a, b Buf, want bool) {
		t.Helper()
		if Same(a, b) != want || Same(b, a) != want {
			t.Errorf("%s: Same is not %t", what, want)
		}
	}
	same("the same", three(), three(), true)
	for what, change := range map[string]func(b *Buf){
		"Late":           func(b *Buf) { b.Late++ },
		"Room":           func(b *Buf) { b.Room++ },
		"Mark":           func(b *Buf) { b.Mark++ },
		"Front":          func(b *Buf) { b.Front-- },
		"one less":       func(b *Buf) { b.Events = b.Events[:2] },
		"the first gone": func(b *Buf) { b.Events = b.Events[1:] },
		"one more":       func(b *Buf) { b.Events = append(b.Events, at(8, 4)) },
		"none":           func(b *Buf) { b.Events = nil },
		"another turn":   func(b *Buf) { b.Events[1], b.Events[2] = b.Events[2], b.Events[1] },
	} {
		b := three()
		change(&b)
		same(what, three(), b, false)
		same(what, b, b, true)
	}
	for i := range 3 {
		for _, change := range []func(e *api.Event){func(e *api.Event) { e.Tick++ }, func(e *api.Event) { e.Key++ }, func(e *api.Event) { e.Weight++ }} {
			b := three()
			change(&b.Events[i])
			same("an event's field", three(), b, false)
		}
	}
	same("the zero one", Buf{}, Buf{}, true)
	same("the zero one and another one", Buf{}, of(0, 1, 0, 0), false)
}

// P12.3, R2: nil and empty events are the same.
func TestSameOfNil(t *testing.T) {
	none, nothing := of(4, 9, 8, 6), of(4, 9, 8, 6)
	none.Events, nothing.Events = nil, []api.Event{}
	if !Same(none, nothing) || !Same(nothing, none) || !Same(none, none) || !Same(nothing, nothing) {
		t.Errorf("nil and empty events are not the same")
	}
	for _, b := range []Buf{none, nothing} {
		if May(b) != api.OK || Weight(b) != 0 {
			t.Errorf("%v may not be, or weighs something", b)
		}
		expectMove(t, "a move", b, 20, of(4, 9, 20, 16), nil)
		expectPush(t, "a push", b, at(7, 1), of(4, 9, 8, 6, at(7, 1)), nil)
		j, out := Join(b, b)
		expect(t, "a join", j, out, b, nil)
	}
}

// P12.3: ErrConf, as New, ahead of all else.
func TestMayOfConf(t *testing.T) {
	for _, late := range append(lates(), 1<<62+1, 1<<63, math.MaxUint64) {
		for _, room := range append(rooms(), math.MinInt, -1, 0, 1025, math.MaxInt) {
			_, want := New(late, room)
			if e := May(of(late, room, 0, 0)); e != want {
				t.Errorf("May of Late %d, Room %d tells %d, want %d", late, room, e, want)
			}
			if want == api.OK {
				want = api.ErrForm
			}
			if e := May(of(late, room, 3, 5, at(1, 1), at(0, 2))); e != want {
				t.Errorf("May of Late %d, Room %d, and much else, tells %d, want %d", late, room, e, want)
			}
		}
	}
}

// P12.3: each thing that may not be, and what is just right.
func TestMay(t *testing.T) {
	const end = 1<<63 - 1
	full := slices.Repeat(s(7, 1), api.MaxRoom)
	weightless := func(i int) []api.Event {
		l := s(7, 1, 8, 2, 9, 3)
		l[i].Weight = 0
		return l
	}
	for _, c := range []struct {
		what string
		b    Buf
		want api.Errno
	}{
		{"an empty one", of(4, 3, 9, 6), api.OK},
		{"a full one", of(4, 3, 9, 6, s(7, 1, 8, 2, 9, 3)...), api.OK},
		{"one more than Room", of(4, 2, 9, 6, s(7, 1, 8, 2, 9, 3)...), api.ErrForm},
		{"as many as may be", of(4, api.MaxRoom, 9, 6, full...), api.OK},
		{"one more than that", of(4, api.MaxRoom, 9, 6, append(full, at(7, 2))...), api.ErrForm},
		{"no weight, first", of(4, 3, 9, 6, weightless(0)...), api.ErrForm},
		{"no weight, between", of(4, 3, 9, 6, weightless(1)...), api.ErrForm},
		{"no weight, last", of(4, 3, 9, 6, weightless(2)...), api.ErrForm},
		{"much weight", of(4, 3, 9, 6, api.Event{Tick: 7, Weight: math.MaxUint64}, api.Event{Tick: 7, Weight: 2}), api.OK},
		{"any key", of(4, 3, 9, 6, api.Event{Tick: 7, Key: math.MaxUint64, Weight: 1}), api.OK},
		{"at Front", of(4, 3, 9, 6, s(6, 1, 8, 2)...), api.ErrForm},
		{"below Front", of(4, 3, 9, 6, s(5, 1, 8, 2)...), api.ErrForm},
		{"1 above Front, at Mark", of(4, 3, 9, 6, s(7, 1, 9, 2)...), api.OK},
		{"above Mark", of(4, 3, 9, 6, s(7, 1, 10, 2)...), api.ErrForm},
		{"above Mark, none at it", of(4, 3, 9, 6, s(10, 1)...), api.ErrForm},
		{"out of turn", of(4, 3, 9, 6, s(8, 1, 7, 2, 9, 3)...), api.ErrForm},
		{"out of turn, last", of(4, 3, 9, 6, s(7, 1, 9, 2, 8, 3)...), api.ErrForm},
		{"of one tick", of(4, 3, 9, 6, s(8, 5, 8, 2, 8, 5)...), api.OK},
		{"Front at Mark", of(4, 3, 9, 9), api.OK},
		{"Front above Mark", of(4, 3, 9, 10), api.ErrForm},
		{"Front far above Mark", of(4, 3, 0, end), api.ErrForm},
		{"Mark at the end", of(4, 3, end, end-4, s(end-3, 1, end, 2)...), api.OK},
		{"Mark above the end", of(4, 3, end+1, end-2, s(end, 1)...), api.ErrForm},
		{"both above the end", of(4, 3, end+1, end+1), api.ErrForm},
		{"both far above the end", of(4, 3, math.MaxUint64, math.MaxUint64), api.ErrForm},
		{"Mark at Front and Late", of(4, 3, 10, 6), api.OK},
		{"Mark above Front and Late", of(4, 3, 11, 6), api.ErrForm},
		{"Mark above Front and Late, by much", of(4, 3, end, 6), api.ErrForm},
		{"Mark below Front and Late", of(4, 3, 7, 6), api.OK},
		{"Late 0", of(0, 3, 9, 9), api.OK},
		{"Late 0, Mark above Front", of(0, 3, 9, 8), api.ErrForm},
		{"the greatest Late", of(1<<62, 3, 1<<62, 0), api.OK},
		{"1 above the greatest Late", of(1<<62, 3, 1<<62+1, 0), api.ErrForm},
		{"a sum above 2^63", of(1<<62, 3, end, end-1, s(end, 1)...), api.OK},
		{"a sum that wraps", of(1<<62, 3, math.MaxUint64, math.MaxUint64-5), api.ErrForm},
		{"a sum that wraps, Mark that may be", of(1<<62, 3, 9, math.MaxUint64-5), api.ErrForm},
		{"the zero one but Room", of(0, 1, 0, 0), api.OK},
		{"a tick of 0", of(4, 3, 4, 0, s(0, 1)...), api.ErrForm},
		{"a tick of 1", of(4, 3, 4, 0, s(1, 1)...), api.OK},
	} {
		if e := May(c.b); e != c.want || mayBe(c.b) != c.want {
			t.Errorf("%s: May tells %d, want %d (and plainly %d)", c.what, e, c.want, mayBe(c.b))
		}
	}
	if e := May(Buf{}); e != api.ErrConf {
		t.Errorf("May of the zero one tells %d", e)
	}
}

// P12.3: held against the chapter's words, of buffers that are nearly right.
func TestMayOfNearlyRight(t *testing.T) {
	seen := map[api.Errno]int{}
	expect := func(b Buf) {
		t.Helper()
		want := mayBe(b)
		seen[want]++
		if e := May(b); e != want {
			t.Errorf("May(%v) tells %d, want %d", b, e, want)
		}
	}
	each(func(b Buf, _ deed) {
		expect(b)
		for _, more := range []uint64{1, 2, 1 << 63, math.MaxUint64 - 1, math.MaxUint64} {
			expect(of(b.Late+more, b.Room, b.Mark, b.Front, b.Events...))
			expect(of(b.Late, b.Room+int(more), b.Mark, b.Front, b.Events...))
			expect(of(b.Late, b.Room, b.Mark+more, b.Front, b.Events...))
			expect(of(b.Late, b.Room, b.Mark, b.Front+more, b.Events...))
			for i := range b.Events {
				events := slices.Clone(b.Events)
				events[i].Tick += more
				expect(of(b.Late, b.Room, b.Mark, b.Front, events...))
			}
		}
		for i := range b.Events {
			events := slices.Clone(b.Events)
			events[i].Weight = 0
			expect(of(b.Late, b.Room, b.Mark, b.Front, events...))
		}
	})
	if seen[api.OK] < 1000 || seen[api.ErrForm] < 1000 || seen[api.ErrConf] < 100 {
		t.Errorf("seen were %v", seen)
	}
}

// P12.3: Join of none.
func TestJoinOfNone(t *testing.T) {
	if b, out := Join(); !empty(b) || len(out) > 0 {
		t.Errorf("Join() tells %v, %v", b, out)
	}
	if b, out := Join([]Buf{}...); !empty(b) || len(out) > 0 {
		t.Errorf("Join of an empty list tells %v, %v", b, out)
	}
}

// P12.3: Join, worked out by hand.
func TestJoin(t *testing.T) {
	one := of(4, 9, 8, 6, s(7, 1, 8, 2, 8, 3)...)
	for _, c := range []struct {
		what string
		l    []Buf
		want Buf
		out  []api.Event
	}{
		{"one, empty", []Buf{of(4, 9, 0, 0)}, of(4, 9, 0, 0), nil},
		{"one", []Buf{one}, one, nil},
		{"one twice", []Buf{one, one}, of(4, 9, 8, 6, s(7, 1, 7, 1, 8, 2, 8, 3, 8, 2, 8, 3)...), nil},
		{"an empty one first", []Buf{of(4, 9, 0, 0), one}, one, nil},
		{"an empty one last", []Buf{one, of(4, 9, 0, 0)}, one, nil},
		{"ticks between ticks", []Buf{of(9, 9, 9, 2, s(3, 1, 6, 2, 9, 3)...), of(9, 9, 8, 2, s(4, 4, 5, 5, 8, 6)...)},
			of(9, 9, 9, 2, s(3, 1, 4, 4, 5, 5, 6, 2, 8, 6, 9, 3)...), nil},
		{"the greatest Mark is the first one's", []Buf{of(9, 9, 9, 2), of(9, 9, 8, 3), of(9, 9, 7, 4)}, of(9, 9, 9, 4), nil},
		{"the greatest Mark is the last one's", []Buf{of(9, 9, 7, 4), of(9, 9, 8, 3), of(9, 9, 9, 2)}, of(9, 9, 9, 4), nil},
		{"both are between", []Buf{of(9, 9, 7, 2), of(9, 9, 9, 4), of(9, 9, 8, 3)}, of(9, 9, 9, 4), nil},
		{"unlike Late and Room", []Buf{of(9, 5, 9, 2), of(20, 9, 8, 3), of(5, 2, 7, 4)}, of(9, 5, 9, 4), nil},
		{"unlike Late and Room, in another turn", []Buf{of(5, 2, 7, 4), of(9, 5, 9, 2), of(20, 9, 8, 3)}, of(5, 2, 9, 4), nil},
		{"some up to Front go out", []Buf{of(9, 9, 9, 2, s(3, 1, 5, 2, 6, 3, 7, 4)...), of(9, 9, 12, 6, s(7, 5, 12, 6)...)},
			of(9, 9, 12, 6, s(7, 4, 7, 5, 12, 6)...), s(3, 1, 5, 2, 6, 3)},
		{"of the second one, too", []Buf{of(9, 9, 12, 6, s(7, 5, 12, 6)...), of(9, 9, 9, 2, s(3, 1, 5, 2, 6, 3, 7, 4)...)},
			of(9, 9, 12, 6, s(7, 5, 7, 4, 12, 6)...), s(3, 1, 5, 2, 6, 3)},
		{"several go out, of one tick, in their turn", []Buf{of(9, 9, 9, 2, s(3, 1, 5, 2, 5, 3)...), of(9, 9, 12, 6), of(9, 9, 9, 1, s(2, 4, 3, 5, 5, 6)...)},
			of(9, 9, 12, 6), s(2, 4, 3, 1, 3, 5, 5, 2, 5, 3, 5, 6)},
		{"of one tick in the turn of the buffers", []Buf{of(9, 9, 9, 2, s(5, 3, 5, 1)...), of(9, 9, 9, 2, s(5, 2, 5, 2)...), of(9, 9, 9, 2, s(5, 1, 5, 0)...)},
			of(9, 9, 9, 2, s(5, 3, 5, 1, 5, 2, 5, 2, 5, 1, 5, 0)...), nil},
		{"none is left", []Buf{of(0, 1, 90, 90), one}, of(0, 1, 90, 90), s(7, 1, 8, 2, 8, 3)},
		{"at the end", []Buf{of(1<<62, 9, 1<<63-1, 1<<63-9, s(1<<63-8, 1, 1<<63-1, 2)...), of(0, 9, 1<<63-2, 1<<63-2)},
			of(1<<62, 9, 1<<63-1, 1<<63-2, s(1<<63-1, 2)...), s(1<<63-8, 1)},
	} {
		b, out := Join(c.l...)
		expect(t, c.what, b, out, c.want, c.out)
	}
}

// P12.3: it isn't settled: neither by Mark nor by Room; a Move settles it.
func TestJoinIsNotSettled(t *testing.T) {
	// The first one's Late is the least one.
	b, out := Join(of(2, 9, 3, 1, s(2, 1)...), of(50, 9, 50, 0, s(1, 2, 10, 3, 20, 4, 49, 5)...))
	expect(t, "by Mark", b, out, of(2, 9, 50, 1, s(2, 1, 10, 3, 20, 4, 49, 5)...), s(1, 2))
	expectMove(t, "by Mark, settled", b, 0, of(2, 9, 50, 48, s(49, 5)...), s(2, 1, 10, 3, 20, 4))
	full := of(90, 2, 50, 0, s(10, 1, 20, 2)...)
	b, out = Join(full, full, full)
	expect(t, "by Room", b, out, of(90, 2, 50, 0, s(10, 1, 10, 1, 10, 1, 20, 2, 20, 2, 20, 2)...), nil)
	expectMove(t, "by Room, settled", b, 0, of(90, 2, 50, 20), s(10, 1, 10, 1, 10, 1, 20, 2, 20, 2, 20, 2))
	b, out = Join(full, of(90, 2, 50, 0, s(15, 3, 25, 4)...), of(90, 2, 60, 0, s(25, 5, 60, 6)...))
	expect(t, "by Room, of many ticks", b, out, of(90, 2, 60, 0, s(10, 1, 15, 3, 20, 2, 25, 4, 25, 5, 60, 6)...), nil)
	expectMove(t, "by Room, of many ticks, settled", b, 0, of(90, 2, 60, 25, s(60, 6)...), s(10, 1, 15, 3, 20, 2, 25, 4, 25, 5))
	expectPush(t, "by a push", b, at(70, 7), of(90, 2, 70, 25, s(60, 6, 70, 7)...), s(10, 1, 15, 3, 20, 2, 25, 4, 25, 5))
}

// P12.3, P3: Join of many, by chance, of unlike and of like ones, held against the chapter's words; and settled behind it.
func TestJoinOfMany(t *testing.T) {
	var all []Buf
	each(func(b Buf, _ deed) { all = append(all, b) })
	d := &dice{5}
	for i := range 4000 {
		var l []Buf
		n := 0
		for range 1 + d.below(uint64(2+i%5)) {
			b := all[d.below(uint64(len(all)))]
			l = append(l, b)
			n += len(b.Events)
		}
		want, wantOut := plainJoin(l)
		b, out := Join(l...)
		expect(t, "many", b, out, want, wantOut)
		if len(b.Events)+len(out) != n {
			t.Errorf("of %d events %d wait, %d go out", n, len(b.Events), len(out))
		}
		tick := d.below(b.Mark + 9)
		want, wantOut = plainMove(b, tick)
		expectMove(t, "settled", b, tick, want, wantOut)
	}
}

// P12.3: of very many buffers of very many events each.
func TestJoinOfFull(t *testing.T) {
	var l []Buf
	for i := range uint64(20) {
		var events []api.Event
		for j := range uint64(api.MaxRoom) {
			events = append(events, at(11+(i+j)/2, i*2000+j))
		}
		l = append(l, of(9000, api.MaxRoom, 5000+i, 10+i*i, slices.DeleteFunc(events, func(e api.Event) bool { return e.Tick <= 10+i*i })...))
	}
	want, wantOut := plainJoin(l)
	b, out := Join(l...)
	expect(t, "full ones", b, out, want, wantOut)
	want, wantOut = plainMove(b, 0)
	expectMove(t, "settled", b, 0, want, wantOut)
}

// P12.4, P3: over many pushes and moves all that came goes out, or waits, in the turn of the ticks, and of one tick in the turn in which it came.
func TestTheorem(t *testing.T) {
	for i, late := range lates() {
		for j, room := range rooms() {
			d := &dice{uint64(i*1000 + j)}
			b, _ := made(t, late, room)
			var came, gone []api.Event
			for _, e := range d.deeds(late, room, 300) {
				var out []api.Event
				b, out = do(t, b, e)
				if e.Weight > 0 {
					came = append(came, e)
				}
				gone = append(gone, out...)
				if len(b.Events) > 0 && b.Front >= b.Events[0].Tick || len(gone) > 0 && gone[len(gone)-1].Tick > b.Front {
					t.Fatalf("Late %d, Room %d: Front is %d, there went out %v, there wait %v", late, room, b.Front, out, b.Events)
				}
			}
			// Keys rise as they came: so this turn is the one of the ticks, and of one tick that in which they came.
			slices.SortStableFunc(came, func(a, b api.Event) int { return big.NewInt(0).SetUint64(a.Tick).Cmp(big.NewInt(0).SetUint64(b.Tick)) })
			if all := slices.Concat(gone, b.Events); !slices.Equal(all, came) {
				t.Errorf("Late %d, Room %d: there were %v, there came %v", late, room, all, came)
			}
			_, rest := moved(t, b, api.MaxTick)
			if all := slices.Concat(gone, rest); !slices.Equal(all, came) {
				t.Errorf("Late %d, Room %d: at last there went out %v, there came %v", late, room, all, came)
			}
		}
	}
}

// P12.4: events of few ticks, so that many are of one.
func TestTheoremOfFewTicks(t *testing.T) {
	for _, room := range []int{1, 2, 3, 5, 9} {
		for late := range uint64(6) {
			d := &dice{uint64(room)*10 + late}
			b, _ := made(t, late, room)
			var gone, came []api.Event
			for i := range uint64(400) {
				e := api.Event{Tick: b.Front + d.below(2+d.below(1+late)), Key: i, Weight: 1}
				var out []api.Event
				b, out = added(t, b, e)
				came, gone = append(came, e), append(gone, out...)
			}
			all := slices.Concat(gone, b.Events)
			for i := range all[1:] {
				if a, b := all[i], all[i+1]; a.Tick > b.Tick || a.Tick == b.Tick && a.Key >= b.Key {
					t.Fatalf("Late %d, Room %d: %v stands ahead of %v", late, room, a, b)
				}
			}
			if len(all) != len(came) {
				t.Errorf("Late %d, Room %d: of %d there are %d", late, room, len(came), len(all))
			}
		}
	}
}

// R3: no call writes into what was handed in, nor behind it.
func TestNothingIsWritten(t *testing.T) {
	each(func(b Buf, e deed) {
		var k keeper
		in, other := roomy(b), roomy(b)
		k.keep(in.Events)
		k.keep(other.Events)
		do(t, in, e)
		do(t, in, deed{Tick: in.Front, Weight: 1})
		do(t, in, deed{Tick: in.Mark + 1, Weight: 1})
		do(t, in, deed{Tick: api.MaxTick})
		expectError(t, "an error", in, api.Event{}, api.ErrArg)
		Weight(in)
		May(in)
		Same(in, other)
		last := of(9, 9, in.Mark+5, in.Mark+2)
		l := []Buf{in, other, in, last}
		Join(l...)
		k.expect(t, "handed in")
		if !alike(l[0], b) || !alike(l[1], b) || !alike(l[2], b) || !alike(l[3], last) {
			t.Fatalf("the list of Join is %v", l)
		}
	})
}

// R3, R4: nor into what was told before: all of it is still the same when much was done behind it, from each buffer on.
func TestNothingToldIsWritten(t *testing.T) {
	for i, late := range lates() {
		for j, room := range []int{1, 2, 3, 8, 40} {
			d := &dice{uint64(i*10 + j)}
			var k keeper
			b, _ := made(t, late, room)
			told := []Buf{b}
			for range 150 {
				// From any of the last ones, so that several go on from one.
				b := told[max(0, len(told)-1-int(d.below(4)))]
				e := deed{Tick: b.Front + d.below(1+min(late, 30)+d.below(4)), Key: d.below(99), Weight: d.below(5)}
				n, out := do(t, b, e)
				k.keep(n.Events)
				k.keep(out)
				told = append(told, n)
				if d.below(5) == 0 {
					joined, out := Join(told[d.below(uint64(len(told)))], n)
					k.keep(joined.Events)
					k.keep(out)
				}
			}
			k.expect(t, "told before")
		}
	}
}

// R4: a buffer that is pushed to twice, or moved, tells the same both times, whatever came between.
func TestTwice(t *testing.T) {
	each(func(b Buf, e deed) {
		first, firstOut := do(t, b, e)
		for i := range uint64(3) {
			do(t, b, deed{Tick: b.Front + i, Key: 777, Weight: 9})
			do(t, first, deed{Tick: first.Front + i, Key: 888, Weight: 9})
			moved(t, first, first.Mark+i)
		}
		again, againOut := do(t, b, e)
		expect(t, "twice", again, againOut, first, firstOut)
	})
}

// R3: who lets more stand behind what was told writes into nothing else that was told.
func TestNoRoomIsShared(t *testing.T) {
	each(func(b Buf, e deed) {
		n, out := do(t, b, e)
		more, _ := moved(t, n, n.Mark)
		joined, gone := Join(n, b)
		var k keeper
		for _, l := range [][]api.Event{n.Events, out, more.Events, joined.Events, gone} {
			k.all = append(k.all, kept{l, slices.Clone(l)})
		}
		one := append(out, at(1, 1))
		two := append(n.Events, at(2, 2))
		three := append(more.Events, at(3, 3))
		four := append(gone, at(4, 4))
		five := append(joined.Events, at(5, 5))
		k.expect(t, "by those who told")
		for i, l := range [][]api.Event{one, two, three, four, five} {
			if tick := uint64(i + 1); l[len(l)-1] != at(tick, tick) {
				t.Fatalf("what stands behind the list %d is %v", tick, l[len(l)-1])
			}
		}
	})
}

// P1: whatever a buffer is, no call panics, and all end.
func TestAnything(t *testing.T) {
	numbers := []uint64{0, 1, 5, 1 << 62, 1<<62 + 1, 1<<63 - 1, 1 << 63, math.MaxUint64}
	lists := [][]api.Event{nil, {}, {{}}, s(5, 1), s(9, 1, 5, 2, 7, 3, 5, 4), s(math.MaxUint64, 1, 0, 2, 1<<63, 3)}
	for _, late := range numbers {
		for _, room := range []int{math.MinInt, -1, 0, 1, 2, 1024, 1025, math.MaxInt} {
			for _, mark := range numbers {
				for _, front := range numbers {
					for _, events := range lists {
						b := of(late, room, mark, front, events...)
						for _, tick := range []uint64{0, 5, 1<<63 - 1, 1 << 63, math.MaxUint64} {
							Push(b, api.Event{Tick: tick, Weight: 1})
							Push(b, api.Event{Tick: tick})
							Move(b, tick)
						}
						Weight(b)
						if e := May(b); e != mayBe(b) {
							t.Fatalf("May(%v) tells %d", b, e)
						}
						if !Same(b, b) {
							t.Fatalf("%v isn't the same as itself", b)
						}
						Join(b)
						Join(b, of(2, 9, 8, 6, s(7, 1)...), b)
					}
				}
			}
		}
	}
}

// R5: what was told with an error, the zero buffer, goes on without a panic: nothing waits in it.
func TestZero(t *testing.T) {
	b, out, _ := Push(of(2, 9, 5, 5), at(1, 1))
	expect(t, "with an error", b, out, Buf{}, nil)
	expectPush(t, "a push", b, at(7, 1), Buf{Mark: 7, Front: 7}, s(7, 1))
	expectMove(t, "a move", b, 7, Buf{Mark: 7, Front: 7}, nil)
}
