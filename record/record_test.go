package record

import (
	"bytes"
	"math"
	"math/big"
	"slices"
	"testing"

	"skylight/api"
	"skylight/check"
	"skylight/codec"
	"skylight/expiry"
	"skylight/hist"
	"skylight/level"
	"skylight/replay"
)

// come is weight of a tick.
type come struct{ tick, weight uint64 }

// s is buckets by their From and To.
func s(ticks ...uint64) []api.Span {
	var l []api.Span
	for pair := range slices.Chunk(ticks, 2) {
		l = append(l, api.Span{From: pair[0], To: pair[1]})
	}
	return l
}

// of is a histogram of these levels.
func of(k, gen int, levels ...[]api.Span) hist.Hist {
	return hist.Hist{K: k, Gen: gen, Levels: levels}
}

// made is a histogram to which some came.
func made(t *testing.T, k int, all ...come) hist.Hist {
	t.Helper()
	h, e := hist.New(k)
	if e != api.OK {
		t.Fatalf("hist.New(%d) tells %d", k, e)
	}
	return added(t, h, all...)
}

// added is a histogram to which some more came.
func added(t *testing.T, h hist.Hist, all ...come) hist.Hist {
	t.Helper()
	for _, c := range all {
		next, e := hist.Add(h, c.tick, c.weight)
		if e != api.OK {
			t.Fatalf("hist.Add(.., %d, %d) tells %d", c.tick, c.weight, e)
		}
		h = next
	}
	return h
}

// merged is histograms, and events, as one.
func merged(t *testing.T, events []api.Event, l ...hist.Hist) hist.Hist {
	t.Helper()
	h, e := replay.With(events, l...)
	if e != api.OK {
		t.Fatalf("replay.With tells %d", e)
	}
	return h
}

// shaped is a histogram with so many buckets on its levels, the lowest first: ticks rise by ten from bucket to bucket, and each above level 0 is five ticks long, so that only how many there are may be wrong of it.
func shaped(k int, sizes ...int) hist.Hist {
	h := hist.Hist{K: k, Levels: make([][]api.Span, len(sizes))}
	tick := uint64(100)
	for i, size := range slices.Backward(sizes) {
		for range size {
			b := api.Span{From: tick, To: tick + 5}
			if i == 0 {
				b.To = b.From
			}
			h.Levels[i] = append(h.Levels[i], b)
			tick += 10
		}
	}
	return h
}

// leasts are so many levels' least sizes: level.Least, and one bucket on the last one.
func leasts(k, levels int) []int {
	var all []int
	for i := range levels {
		all = append(all, level.Least(k, i))
	}
	if levels > 0 {
		all[levels-1] = 1
	}
	return all
}

// with is a list with another thing at a place.
func with[E any](l []E, i int, e E) []E {
	out := slices.Clone(l)
	out[i] = e
	return out
}

// ks are numbers of k: the least and the greatest one, odd and even ones.
func ks() []int { return []int{api.MinK, 3, 4, 5, 8, 9, 31, 1023, api.MaxK} }

// units are a unit at each of the ticks 1 to many.
func units(many uint64) []come {
	var all []come
	for i := range many {
		all = append(all, come{i + 1, 1})
	}
	return all
}

// streams are weights one behind the other, by rising ticks: none, units, several of one tick, ticks that are skipped, weights of all sizes, the least and the greatest tick.
func streams() [][]come {
	all := [][]come{
		nil,
		{{0, 1}},
		{{5, 1}},
		{{0, 9}, {1, 1}},
		{{7, 1}, {7, 2}, {9, 40}},
		{{127, 1}, {255, 1}, {16383, 3}, {1 << 20, 5}},
		{{0, 5001}, {api.MaxTick - 1, 77}, {api.MaxTick, 3}},
		{{3, 1 << 51}, {8, 1 << 40}, {9, 12345}, {30, 1}},
		{{4, 1}, {5, api.MaxTotal - 2}, {6, 1}},
		{{5, api.MaxTotal}},
		{{api.MaxTick, api.MaxTotal}},
	}
	var mixed, growing, rising, falling []come
	for i := range uint64(70) {
		mixed = append(mixed, come{3 * (i / 2), i*i%23 + 1})
		growing = append(growing, come{1<<40 + i*i*i*i, i + 1})
	}
	for i := range uint64(50) {
		rising = append(rising, come{1 << i, 1<<i + i%2})
		falling = append(falling, come{10 + 3*i, 1<<(50-i) - i%2})
	}
	return append(all, units(4), units(70), units(3000), mixed, growing, rising, falling)
}

// eachHist calls with histograms of each k and stream: as they were made, merged so often as may be, and behind drops of each of these.
func eachHist(t *testing.T, do func(h hist.Hist)) {
	t.Helper()
	for _, k := range ks() {
		for _, stream := range streams() {
			h := made(t, k, stream...)
			for gen := range api.MaxGen + 1 {
				if gen > 0 {
					h = merged(t, nil, h)
				}
				last, _ := hist.Last(h)
				do(h)
				do(expiry.Drop(h, last, 0))
				do(expiry.Drop(h, last, last/2))
			}
		}
	}
}

// dice tell numbers that look as if by chance, the same each time.
type dice struct{ state uint64 }

// below is a number below another one.
func (d *dice) below(n uint64) uint64 {
	d.state = d.state*6364136223846793005 + 1442695040888963407
	return d.state >> 33 % n
}

// one is one of a list.
func one[E any](d *dice, l ...E) E { return l[d.below(uint64(len(l)))] }

// bs is numbers as bytes, one behind the other; digit by digit, as chapter 1 tells it.
func bs(numbers ...uint64) []byte {
	var b []byte
	for _, n := range numbers {
		for ; n > 127; n /= 128 {
			b = append(b, byte(n%128)+128)
		}
		b = append(b, byte(n))
	}
	return b
}

// plainPut is a histogram as bytes, number by number, whether it may be or not.
func plainPut(h hist.Hist) []byte {
	numbers := []uint64{uint64(h.K), uint64(h.Gen), uint64(len(h.Levels))}
	ahead := uint64(0)
	for _, l := range slices.Backward(h.Levels) {
		numbers = append(numbers, uint64(len(l)))
		for _, b := range l {
			numbers = append(numbers, b.From-ahead, b.To-b.From)
			ahead = b.To
		}
	}
	return bs(numbers...)
}

// outcome is what is told of bytes: a histogram, what is wrong, and how many bytes are left.
type outcome struct {
	h    hist.Hist
	e    api.Errno
	left int
}

// plainReader reads numbers, as the chapters 1 and 2 tell it.
type plainReader struct {
	b []byte
	e api.Errno
}

// num is the next number; 0, if something is wrong.
func (p *plainReader) num(most uint64) uint64 {
	if p.e != api.OK {
		return 0
	}
	end := slices.IndexFunc(p.b, func(d byte) bool { return d < 128 })
	switch {
	case end > 9 || end < 0 && len(p.b) >= 10:
		p.e = api.ErrForm
	case end < 0:
		p.e = api.ErrShort
	case end > 0 && p.b[end] == 0 || end == 9 && p.b[end] > 1:
		p.e = api.ErrForm
	}
	if p.e != api.OK {
		return 0
	}
	n := uint64(0)
	for _, d := range slices.Backward(p.b[:end+1]) {
		n = n<<7 | uint64(d&127)
	}
	if n > most {
		p.e = api.ErrForm
		return 0
	}
	p.b = p.b[end+1:]
	return n
}

// plainTake is what Take should tell of bytes, with ticks as whole numbers.
func plainTake(b []byte) outcome {
	p := &plainReader{b: b}
	h := hist.Hist{K: int(p.num(1024)), Gen: int(p.num(4))}
	tick, beyond := new(big.Int), false
	next := func() uint64 {
		tick.Add(tick, new(big.Int).SetUint64(p.num(1<<63-1)))
		beyond = beyond || tick.BitLen() > 63
		return tick.Uint64()
	}
	for range p.num(52) {
		var l []api.Span
		for range p.num(1025) {
			from := next()
			l = append(l, api.Span{From: from, To: next()})
		}
		h.Levels = append(h.Levels, l)
	}
	slices.Reverse(h.Levels)
	if p.e == api.OK && (beyond || check.Hist(h) != api.OK) {
		p.e = api.ErrForm
	}
	if p.e != api.OK {
		return outcome{hist.Hist{}, p.e, len(p.b)}
	}
	return outcome{h, api.OK, len(p.b)}
}

// fine is what should be told of bytes that begin with a histogram.
func fine(h hist.Hist, left int) outcome { return outcome{h, api.OK, left} }

// wrong is what should be told of bytes with which something is wrong.
func wrong(e api.Errno, left int) outcome { return outcome{hist.Hist{}, e, left} }

// zero tells whether a histogram is the zero one.
func zero(h hist.Hist) bool { return h.K == 0 && h.Gen == 0 && len(h.Levels) == 0 }

// expect asks Take and One of bytes, and tells what is wrong.
func expect(t *testing.T, what string, b []byte, want outcome) {
	t.Helper()
	r := codec.New(b)
	expectTaken(t, what, r, want)
	end := want.e
	if end == api.OK && want.left > 0 {
		end = api.ErrForm
	}
	if e := r.End(); e != end {
		t.Errorf("%s: of % x End tells %d, want %d", what, b, e, end)
	}
	alone := want.h
	if end != api.OK {
		alone = hist.Hist{}
	}
	if h, e := One(b); e != end || !hist.Same(h, alone) {
		t.Errorf("%s: of % x One tells %d, %v, want %d, %v", what, b, e, h, end, alone)
	}
}

// expectTaken asks Take of a reader; if something is wrong, again: nothing more is read then.
func expectTaken(t *testing.T, what string, r *codec.Reader, want outcome) {
	t.Helper()
	times := 1
	if want.e != api.OK {
		times = 3
	}
	for range times {
		if h := Take(r); !hist.Same(h, want.h) || r.Err() != want.e || r.Left() != want.left {
			t.Errorf("%s: Take tells %v, with the error %d and %d bytes left, want %v, %d and %d", what, h, r.Err(), r.Left(), want.h, want.e, want.left)
		}
	}
}

// sample is a histogram, and its bytes.
type sample struct {
	what string
	h    hist.Hist
	b    []byte
}

// samples are some by hand.
func samples() []sample {
	const top = api.MaxTick
	return []sample{
		{"the chapter's", of(2, 0, s(5, 5)), []byte{2, 0, 1, 1, 5, 0}},
		{"without any bucket", of(2, 0), []byte{2, 0, 0}},
		{"without any bucket, K 3", of(3, 0), []byte{3, 0, 0}},
		{"without any bucket, K 1024", of(1024, 0), []byte{128, 8, 0, 0}},
		{"without any bucket, merged", of(2, 4), []byte{2, 4, 0}},
		{"the tick 0", of(2, 0, s(0, 0)), []byte{2, 0, 1, 1, 0, 0}},
		{"the tick 127", of(2, 0, s(127, 127)), []byte{2, 0, 1, 1, 127, 0}},
		{"the tick 128", of(2, 0, s(128, 128)), []byte{2, 0, 1, 1, 128, 1, 0}},
		{"the greatest tick", of(2, 0, s(top, top)), []byte{2, 0, 1, 1, 255, 255, 255, 255, 255, 255, 255, 255, 127, 0}},
		{"some of one tick", of(3, 1, s(9, 9, 9, 9, 9, 9, 9, 9)), []byte{3, 1, 1, 4, 9, 0, 0, 0, 0, 0, 0, 0}},
		{"some that rise", of(1024, 2, s(1, 1, 3, 3, 6, 6)), []byte{128, 8, 2, 1, 3, 1, 0, 2, 0, 3, 0}},
		{"two levels, the last one first", of(2, 0, s(3, 3, 4, 4), s(1, 2)), []byte{2, 0, 2, 1, 1, 1, 2, 1, 0, 1, 0}},
		{"from level to level the tick ahead goes on", of(2, 3, s(100, 100, 300, 300), s(50, 60, 60, 90)), []byte{2, 3, 2, 2, 50, 10, 0, 30, 2, 10, 0, 200, 1, 0}},
		{"three levels", of(2, 0, s(9, 9, 9, 9, 20, 20), s(5, 6), s(0, 5)), []byte{2, 0, 3, 1, 0, 5, 1, 0, 1, 3, 3, 0, 0, 0, 11, 0}},
		{"K 3, two levels", of(3, 0, s(7, 7, 7, 7, 8, 8), s(1, 3, 3, 3, 4, 7)), []byte{3, 0, 2, 3, 1, 2, 0, 0, 1, 3, 3, 0, 0, 0, 0, 1, 0}},
		{"the greatest step within a bucket", of(2, 0, s(top, top, top, top), s(0, top)), []byte{2, 0, 2, 1, 0, 255, 255, 255, 255, 255, 255, 255, 255, 127, 2, 0, 0, 0, 0}},
		{"the greatest step between levels", of(2, 0, s(top, top, top, top), s(0, 0)), []byte{2, 0, 2, 1, 0, 0, 2, 255, 255, 255, 255, 255, 255, 255, 255, 127, 0, 0, 0}},
	}
}

// some are samples, and some more that are longer: many levels, many buckets, each Gen.
func some(t *testing.T) []sample {
	t.Helper()
	all := samples()
	keep := func(what string, h hist.Hist) { all = append(all, sample{what, h, plainPut(h)}) }
	for gen := range 5 {
		for _, k := range []int{2, 3, 9} {
			h := made(t, k, units(20+uint64(gen))...)
			for range gen {
				h = merged(t, nil, h)
			}
			keep("of each Gen", h)
		}
	}
	keep("52 levels, a total of just 2^52", shaped(2, leasts(2, 52)...))
	keep("a total of just 2^52", made(t, 3, come{5, api.MaxTotal}))
	keep("ticks far from each other", made(t, 2, come{300, 1}, come{1 << 30, 1}, come{1 << 50, 3}, come{1 << 62, 2}))
	return all
}

// The example of the chapter.
func TestExample(t *testing.T) {
	h := made(t, 2, come{5, 1})
	if b := Put(h); !bytes.Equal(b, []byte{2, 0, 1, 1, 5, 0}) {
		t.Errorf("Put is %v", b)
	}
	expect(t, "the example", []byte{2, 0, 1, 1, 5, 0}, fine(h, 0))
}

// P11.1 to P11.3, by hand.
func TestByHand(t *testing.T) {
	for _, c := range samples() {
		if b := Put(c.h); !bytes.Equal(b, c.b) {
			t.Errorf("%s: Put is %v, want %v", c.what, b, c.b)
		}
		expect(t, c.what, c.b, fine(c.h, 0))
	}
}

// P11.1: K and Gen at all that may be, with and without buckets.
func TestPutOfEachConf(t *testing.T) {
	for k := 2; k <= 1024; k++ {
		for gen := range 5 {
			if b, want := Put(of(k, gen)), bs(uint64(k), uint64(gen), 0); !bytes.Equal(b, want) {
				t.Fatalf("of K %d and Gen %d it is %v, want %v", k, gen, b, want)
			}
			if b, want := Put(of(k, gen, s(700, 700))), bs(uint64(k), uint64(gen), 1, 1, 700, 0); !bytes.Equal(b, want) {
				t.Fatalf("of K %d and Gen %d it is %v, want %v", k, gen, b, want)
			}
		}
	}
}

// P11.1, R2: without any level, nil and empty.
func TestPutOfNilAndEmpty(t *testing.T) {
	for _, levels := range [][][]api.Span{nil, {}, make([][]api.Span, 0, 3)} {
		if b := Put(hist.Hist{K: 5, Gen: 1, Levels: levels}); !bytes.Equal(b, []byte{5, 1, 0}) {
			t.Errorf("it is %v", b)
		}
	}
}

// P11.1: held against numbers, one by one.
func TestPutOfEachHist(t *testing.T) {
	longest := 0
	eachHist(t, func(h hist.Hist) {
		want := plainPut(h)
		if b := Put(h); !bytes.Equal(b, want) {
			t.Fatalf("of K %d, Gen %d it is % x, want % x", h.K, h.Gen, b, want)
		}
		longest = max(longest, len(want))
	})
	if longest < 4000 {
		t.Errorf("the longest one has %d bytes", longest)
	}
}

// odd is a histogram that may not be.
type odd struct {
	what string
	h    hist.Hist
}

// odds are histograms that may not be, of each kind.
func odds() []odd {
	const last, most = api.MaxTick, math.MaxUint64
	all := []odd{
		{"the zero one", hist.Hist{}},
		{"a level without a bucket", of(2, 0, nil)},
		{"a level without a bucket, empty", of(2, 0, []api.Span{})},
		{"the last level without a bucket", of(2, 0, s(5, 5), nil)},
		{"a level between without a bucket", of(2, 0, s(9, 9, 9, 9), nil, s(1, 2))},
		{"level 0 without a bucket", of(2, 0, nil, s(1, 2))},
		{"too few on level 0", of(2, 0, s(9, 9), s(1, 2))},
		{"too few on level 1", shaped(3, 3, 1, 1)},
		{"too many on level 0", of(2, 0, s(5, 5, 5, 5, 5, 5, 5, 5))},
		{"too many on level 0, K 1024", shaped(1024, 1026)},
		{"too many on level 1", of(2, 0, s(9, 9, 9, 9), s(1, 2, 3, 4, 5, 6))},
		{"too many on the level between", shaped(3, 3, 4, 1)},
		{"53 levels", shaped(2, leasts(2, 53)...)},
		{"54 levels", shaped(2, leasts(2, 54)...)},
		{"70 levels", shaped(2, leasts(2, 70)...)},
		{"200 levels without a bucket", of(2, 0, make([][]api.Span, 200)...)},
		{"a total of 2^52 and 1", shaped(2, with(leasts(2, 52), 0, 3)...)},
		{"a total of 2^52 and 2", shaped(2, with(leasts(2, 52), 1, 2)...)},
		{"level 0, To above From", of(2, 0, s(5, 6))},
		{"level 0, To above From, ahead of another one", of(2, 0, s(5, 6, 6, 6))},
		{"level 0, To above From, behind another one", of(2, 0, s(5, 5, 5, 6))},
		{"level 0, From above To", of(2, 0, s(6, 5))},
		{"level 1, From above To", of(2, 0, s(9, 9, 9, 9), s(6, 5))},
		{"level 0, From below the To ahead", of(2, 0, s(6, 6, 5, 5))},
		{"level 1, From below the To ahead", of(2, 0, s(9, 9, 9, 9), s(1, 4, 3, 5))},
		{"from level to level, From below the To ahead", of(2, 0, s(4, 4, 9, 9), s(1, 5))},
		{"a tick of 2^63", of(2, 0, s(last+1, last+1))},
		{"a To of 2^63", of(2, 0, s(last+1, last+1, last+1, last+1), s(5, last+1))},
		{"a tick of 2^64 less 1", of(2, 0, s(most, most))},
		{"a From of 2^64 less 1", of(2, 0, s(most, 5))},
	}
	for _, k := range []int{1, 0, -1, -2, 1025, 1026, 1 << 32, 1<<32 + 2, math.MaxInt, math.MinInt} {
		all = append(all, odd{"a K", of(k, 0)}, odd{"a K, with a bucket", of(k, 0, s(5, 5))})
	}
	for _, gen := range []int{-1, 5, 6, 1 << 32, math.MaxInt, math.MinInt} {
		all = append(all, odd{"a Gen", of(2, gen)}, odd{"a Gen, with a bucket", of(2, gen, s(5, 5))})
	}
	return all
}

// P11.1: of one that may not be nothing is told.
func TestPutOfOdds(t *testing.T) {
	for _, c := range odds() {
		if e := check.Hist(c.h); e == api.OK {
			t.Errorf("%s: it may be", c.what)
		}
		if b := Put(c.h); len(b) != 0 {
			t.Errorf("%s: it is %v", c.what, b)
		}
	}
}

// P11.2, P11.3: bytes of such a one, of which each number may be read, are all read, and then refused.
func TestTakeOfOdds(t *testing.T) {
	all := 0
	for _, c := range odds() {
		for _, tail := range [][]byte{nil, {0}, {2, 0, 0}} {
			b := slices.Concat(plainPut(c.h), tail)
			want := plainTake(b)
			if want.e != api.ErrForm {
				t.Errorf("%s: want %d", c.what, want.e)
			}
			expect(t, c.what, b, want)
			if want.left == len(tail) {
				all++
			}
		}
	}
	if all < 50 {
		t.Errorf("only %d are all read", all)
	}
}

// P11.2, P11.3: what can be told as bytes, and may not be, by hand: all is read ahead of that.
func TestTakeOfOddsByHand(t *testing.T) {
	for _, c := range []struct {
		what string
		b    []byte
	}{
		{"K 1", bs(1, 0, 0)},
		{"K 1, of one unit", bs(1, 0, 1, 1, 5, 0)},
		{"K 0", bs(0, 0, 0)},
		{"K 0, of one unit", bs(0, 4, 1, 1, 5, 0)},
		{"an empty level", bs(2, 0, 1, 0)},
		{"an empty level, the last one", bs(2, 0, 2, 0, 1, 5, 0)},
		{"an empty level, level 0", bs(2, 0, 2, 1, 5, 0, 0)},
		{"an empty level between", bs(2, 0, 3, 1, 5, 0, 0, 2, 0, 0, 0, 0)},
		{"52 empty levels", append(bs(2, 0, 52), make([]byte, 52)...)},
		{"too few", bs(2, 0, 2, 1, 5, 0, 1, 0, 0)},
		{"too few, K 3, level 1", bs(3, 0, 3, 1, 5, 0, 1, 0, 0, 3, 0, 0, 0, 0, 0, 0)},
		{"too many", bs(2, 0, 1, 4, 5, 0, 0, 0, 0, 0, 0, 0)},
		{"too many, level 1", bs(2, 0, 2, 3, 5, 0, 0, 0, 0, 0, 2, 0, 0, 0, 0)},
		{"1025, K 2", append(bs(2, 0, 1, 1025), make([]byte, 2*1025)...)},
		{"1025, K 1023", append(bs(1023, 0, 1, 1025), make([]byte, 2*1025)...)},
		{"1025, level 1", slices.Concat(bs(1024, 0, 2, 1025), make([]byte, 2*1025), bs(1024), make([]byte, 2*1024))},
		{"To above From, level 0", bs(2, 0, 1, 1, 5, 1)},
		{"To above From, level 0, the last one", bs(2, 0, 1, 2, 5, 0, 0, 7)},
		{"a total of 2^52 and 1", plainPut(shaped(2, with(leasts(2, 52), 0, 3)...))},
		{"52 levels, all with three", plainPut(shaped(2, slices.Repeat([]int{3}, 52)...))},
	} {
		for _, tail := range [][]byte{nil, {0}, {255}, {2, 0, 0}} {
			expect(t, c.what, slices.Concat(c.b, tail), wrong(api.ErrForm, len(tail)))
		}
	}
}

// P11.2, P11.3: each number at its bound, and 1 above it; the reader stays ahead of that one.
func TestBounds(t *testing.T) {
	const last, most = api.MaxTick, math.MaxUint64
	full := shaped(1024, 1025)
	// behind is what stands behind how many buckets of the full one there are.
	behind := bytes.TrimPrefix(plainPut(full), bs(1024, 0, 1, 1025))
	for _, c := range []struct {
		what string
		b    []byte
		want outcome
	}{
		{"K 2", bs(2, 0, 0), fine(of(2, 0), 0)},
		{"K 1024", bs(1024, 0, 0), fine(of(1024, 0), 0)},
		{"K 1025", bs(1025, 0, 0), wrong(api.ErrForm, 4)},
		{"K 2^64 less 1", bs(most, 0, 0), wrong(api.ErrForm, 12)},
		{"K 2^32 and 2", bs(1<<32+2, 0, 0), wrong(api.ErrForm, 7)},
		{"K 1025, and nothing", bs(1025), wrong(api.ErrForm, 2)},
		{"Gen 4", bs(2, 4, 0), fine(of(2, 4), 0)},
		{"Gen 5", bs(2, 5, 0), wrong(api.ErrForm, 2)},
		{"Gen 2^64 less 1", bs(2, most, 0), wrong(api.ErrForm, 11)},
		{"Gen 5, and K 1, that is told later", bs(1, 5, 0), wrong(api.ErrForm, 2)},
		{"52 levels", plainPut(shaped(2, leasts(2, 52)...)), fine(shaped(2, leasts(2, 52)...), 0)},
		{"52 levels, and nothing", bs(2, 0, 52), wrong(api.ErrShort, 0)},
		{"53 levels, and nothing", bs(2, 0, 53), wrong(api.ErrForm, 1)},
		{"53 levels", bs(2, 0, 53, 1, 5, 0), wrong(api.ErrForm, 4)},
		{"2^64 less 1 levels", bs(2, 0, most, 1, 5, 0), wrong(api.ErrForm, 13)},
		{"1025 buckets", plainPut(full), fine(full, 0)},
		{"1025 buckets, and nothing", bs(1024, 0, 1, 1025), wrong(api.ErrShort, 0)},
		{"1026 buckets", slices.Concat(bs(1024, 0, 1, 1026), behind, bs(5, 0)), wrong(api.ErrForm, 4+len(behind))},
		{"1026 buckets, and nothing", bs(1024, 0, 1, 1026), wrong(api.ErrForm, 2)},
		{"1026 buckets, K 2", bs(2, 0, 1, 1026, 5), wrong(api.ErrForm, 3)},
		{"1026 buckets, level 1", bs(1024, 0, 2, 1026, 5), wrong(api.ErrForm, 3)},
		{"1026 buckets, level 0 of two", bs(2, 0, 2, 1, 5, 0, 1026, 7), wrong(api.ErrForm, 3)},
		{"2^64 less 1 buckets", bs(2, 0, 1, most, 7), wrong(api.ErrForm, 11)},
		{"From 2^63 less 1", bs(2, 0, 1, 1, last, 0), fine(of(2, 0, s(last, last)), 0)},
		{"From 2^63", bs(2, 0, 1, 1, last+1, 0), wrong(api.ErrForm, 11)},
		{"From 2^64 less 1", bs(2, 0, 1, 1, most, 0), wrong(api.ErrForm, 11)},
		{"To 2^63 less 1 more", bs(2, 0, 2, 1, 0, last, 2, 0, 0, 0, 0), fine(of(2, 0, s(last, last, last, last), s(0, last)), 0)},
		{"To 2^63 more", bs(2, 0, 2, 1, 0, last+1, 2, 0, 0, 0, 0), wrong(api.ErrForm, 15)},
		{"To 2^64 less 1 more", bs(2, 0, 2, 1, 0, most, 2, 0, 0, 0, 0), wrong(api.ErrForm, 15)},
		{"From 2^63 more, the second one", bs(2, 0, 1, 2, 0, 0, last+1, 0), wrong(api.ErrForm, 11)},
		{"From 2^63 more, the level below", bs(2, 0, 2, 1, 0, 0, 2, last+1, 0, 0, 0), wrong(api.ErrForm, 13)},
	} {
		expect(t, c.what, c.b, c.want)
		if c.want.e != api.ErrShort {
			c.want.left++
			expect(t, c.what+", and a byte more", append(slices.Clone(c.b), 7), c.want)
		}
	}
}

// P11.2: 1025 buckets are read of each of the levels, also where these are too many.
func TestManyBucketsOfEachLevel(t *testing.T) {
	for _, k := range []int{2, 1024} {
		numbers := []uint64{uint64(k), 0, 52}
		for range 52 {
			numbers = append(numbers, 1025)
			numbers = append(numbers, make([]uint64, 2*1025)...)
		}
		expect(t, "1025 on 52 levels", append(bs(numbers...), 3, 0, 0), wrong(api.ErrForm, 3))
		expect(t, "1025 on 52 levels, the last number cut off", bs(numbers[:len(numbers)-1]...), wrong(api.ErrShort, 0))
	}
}

// P11.2: ticks that are more than 2^63 less 1, and than 64 bits bear, together, at each number; all is read ahead of that being told.
func TestTicksTogether(t *testing.T) {
	const top = api.MaxTick
	// Of K 2: three levels, of which the last one has one bucket; six buckets, of two numbers each.
	ahead := []uint64{2, 0, 3}
	sizes := []uint64{1, 2, 3}
	bytesOf := func(steps []uint64) []byte {
		numbers := slices.Clone(ahead)
		at := 0
		for _, size := range sizes {
			numbers = append(numbers, size)
			numbers = append(numbers, steps[at:at+2*int(size)]...)
			at += 2 * int(size)
		}
		return bs(numbers...)
	}
	none := make([]uint64, 12)
	// Up to that one, To may be above From: behind it stands level 0.
	const long = 6
	for i := range none {
		want := wrong(api.ErrForm, 0)
		if i < long || i%2 == 0 {
			want = plainTake(bytesOf(with(none, i, top)))
			if want.e != api.OK {
				t.Errorf("2^63 less 1 at the number %d may not be", i)
			}
		}
		expect(t, "just 2^63 less 1", bytesOf(with(none, i, top)), want)
		for j := range i {
			for _, c := range []struct{ first, second uint64 }{{top, 1}, {1, top}, {top, top}, {top, top - 1}, {1 << 62, 1 << 62}} {
				steps := with(with(none, j, c.first), i, c.second)
				expect(t, "above 2^63 less 1", bytesOf(steps), wrong(api.ErrForm, 0))
				expect(t, "above 2^63 less 1, and a byte more", append(bytesOf(steps), 9), wrong(api.ErrForm, 1))
				for l := range j {
					// Modulo 2^64 these are 0, 1, and 2^63 less 3.
					for _, third := range []uint64{2, 3, top} {
						steps := with(with(with(none, l, top), j, top), i, third)
						expect(t, "above 64 bits", bytesOf(steps), wrong(api.ErrForm, 0))
						expect(t, "above 64 bits, and a byte more", append(bytesOf(steps), 9), wrong(api.ErrForm, 1))
					}
				}
			}
		}
	}
	for i := range len(none) + 1 {
		steps := slices.Clone(none)
		for j := range i {
			steps[j] = top
		}
		expect(t, "several of 2^63 less 1", bytesOf(steps), plainTake(bytesOf(steps)))
	}
}

// P11.2, P11.3: of no bytes.
func TestNoBytes(t *testing.T) {
	expect(t, "nil", nil, wrong(api.ErrShort, 0))
	expect(t, "empty", []byte{}, wrong(api.ErrShort, 0))
	expect(t, "empty, with room behind", []byte{2, 0, 0}[:0], wrong(api.ErrShort, 0))
}

// begins are the places at which a number begins.
func begins(b []byte) []int {
	var all []int
	for i := range b {
		if i == 0 || b[i-1] < 128 {
			all = append(all, i)
		}
	}
	return all
}

// P11.2, P11.3: bytes that are cut off at each place; the reader stays ahead of the number that is cut.
func TestCutOff(t *testing.T) {
	for _, c := range some(t) {
		starts := begins(c.b)
		for n := range c.b {
			whole := 0
			for _, start := range starts {
				if start <= n {
					whole = start
				}
			}
			expect(t, c.what, c.b[:n], wrong(api.ErrShort, n-whole))
		}
	}
}

// P11.2, P11.3: with more behind Take leaves it, and One tells ErrForm.
func TestMoreBehind(t *testing.T) {
	for _, c := range some(t) {
		for _, tail := range [][]byte{{0}, {1}, {127}, {128}, {255}, {2, 0, 0}, {255, 255, 255, 255, 255, 255, 255, 255, 255, 255, 255}} {
			b := slices.Concat(c.b, tail)
			expect(t, c.what, b, fine(c.h, len(tail)))
			if h, e := One(b); e != api.ErrForm || !zero(h) {
				t.Errorf("%s: One tells %d, %v", c.what, e, h)
			}
		}
	}
}

// P11.2, P11.3, P2: numbers that aren't in their one form, at each place; the reader stays ahead of them.
func TestOtherForms(t *testing.T) {
	for _, c := range some(t) {
		starts := append(begins(c.b), len(c.b))
		for i, start := range starts[:len(starts)-1] {
			end := starts[i+1]
			number, rest := c.b[start:end], c.b[end:]
			for zeros := 1; len(number)+zeros <= 12; zeros++ {
				longer := slices.Clone(number)
				longer[len(longer)-1] |= 128
				longer = append(longer, bytes.Repeat([]byte{128}, zeros-1)...)
				longer = append(longer, 0)
				b := slices.Concat(c.b[:start], longer, rest)
				expect(t, c.what, b, wrong(api.ErrForm, len(b)-start))
			}
			for _, other := range [][]byte{
				append(bytes.Repeat([]byte{255}, 9), 2),
				bytes.Repeat([]byte{255}, 10),
				bytes.Repeat([]byte{128}, 10),
				append(bytes.Repeat([]byte{255}, 10), 1),
			} {
				b := slices.Concat(c.b[:start], other, rest)
				expect(t, c.what, b, wrong(api.ErrForm, len(b)-start))
			}
		}
	}
}

// P11.2: of a reader at which something was wrong already nothing is read, and that stays.
func TestWrongAlready(t *testing.T) {
	for _, c := range some(t) {
		for e := api.ErrArg; e <= api.ErrFull; e++ {
			r := codec.New(c.b)
			r.Fail(e)
			expectTaken(t, c.what, r, wrong(e, len(c.b)))
		}
		r := codec.New(append([]byte{9}, c.b...))
		r.Num(8)
		expectTaken(t, "behind a number that is too great", r, wrong(api.ErrForm, len(c.b)+1))
		r = codec.New(append([]byte{128, 0}, c.b...))
		r.Num(8)
		expectTaken(t, "behind a number of another form", r, wrong(api.ErrForm, len(c.b)+2))
	}
	for _, c := range odds() {
		// An odd one is not told as ErrForm where another thing was wrong ahead of it.
		r := codec.New(plainPut(c.h))
		r.Fail(api.ErrGen)
		expectTaken(t, c.what, r, wrong(api.ErrGen, len(plainPut(c.h))))
	}
	r := codec.New(nil)
	r.Fail(api.ErrKey)
	expectTaken(t, "no bytes", r, wrong(api.ErrKey, 0))
}

// P11.2: a reader that is wrong behind one histogram reads no second one.
func TestWrongBehindAnother(t *testing.T) {
	good := []byte{2, 0, 1, 1, 5, 0}
	r := codec.New(slices.Concat(good, []byte{2, 0, 1, 0}, good))
	expectTaken(t, "the first one", r, fine(of(2, 0, s(5, 5)), 10))
	expectTaken(t, "the second one, that may not be", r, wrong(api.ErrForm, 6))
	expectTaken(t, "the third one", r, wrong(api.ErrForm, 6))
	r = codec.New(slices.Concat(good, []byte{1, 0, 0}, good))
	expectTaken(t, "the first one", r, fine(of(2, 0, s(5, 5)), 9))
	expectTaken(t, "the second one, of K 1", r, wrong(api.ErrForm, 6))
	r = codec.New(slices.Concat(good, good[:4]))
	expectTaken(t, "the first one", r, fine(of(2, 0, s(5, 5)), 4))
	expectTaken(t, "the second one, that is too short", r, wrong(api.ErrShort, 0))
	r = codec.New(good)
	expectTaken(t, "the only one", r, fine(of(2, 0, s(5, 5)), 0))
	expectTaken(t, "none", r, wrong(api.ErrShort, 0))
}

// P11.2: of nobody's reader.
func TestNilReader(t *testing.T) {
	for range 3 {
		if h := Take(nil); !zero(h) {
			t.Errorf("Take(nil) is %v", h)
		}
	}
	var r *codec.Reader
	expectTaken(t, "nil", r, wrong(api.ErrArg, 0))
	if e := r.End(); e != api.ErrArg {
		t.Errorf("End tells %d", e)
	}
	expectTaken(t, "a Reader of nothing", &codec.Reader{}, wrong(api.ErrShort, 0))
}

// P11.2: several, one behind the other, by one reader, with nothing left; each begins with the tick 0 again.
func TestSeveral(t *testing.T) {
	all := some(t)
	for _, two := range all {
		all = append(all, two)
	}
	slices.Reverse(all[len(all)/2:])
	var b []byte
	for _, c := range all {
		b = append(b, Put(c.h)...)
	}
	r := codec.New(b)
	left := len(b)
	for _, c := range all {
		left -= len(c.b)
		expectTaken(t, c.what, r, fine(c.h, left))
	}
	if e := r.End(); e != api.OK {
		t.Errorf("End tells %d", e)
	}
}

// P11.2: between other things.
func TestBetweenOthers(t *testing.T) {
	for _, c := range some(t) {
		b := slices.Concat(codec.Text([]byte("ab")), Put(c.h), codec.Fixed(77), Put(c.h), codec.Num(9))
		r := codec.New(b)
		if x := r.Text(2); string(x) != "ab" {
			t.Errorf("%s: the text is %q", c.what, x)
		}
		expectTaken(t, c.what, r, fine(c.h, len(c.b)+9))
		if n := r.Fixed(); n != 77 {
			t.Errorf("%s: the fixed number is %d", c.what, n)
		}
		expectTaken(t, c.what, r, fine(c.h, 1))
		if n := r.Num(9); n != 9 || r.End() != api.OK {
			t.Errorf("%s: the number is %d, and End tells %d", c.what, n, r.End())
		}
	}
}

// thereAndBack tells what is wrong, if a histogram isn't told there and back.
func thereAndBack(t *testing.T, h hist.Hist) {
	t.Helper()
	b := Put(h)
	if len(b) == 0 {
		t.Fatalf("of K %d, Gen %d nothing is told", h.K, h.Gen)
	}
	back, e := One(b)
	if e != api.OK || !hist.Same(back, h) {
		t.Fatalf("of K %d, Gen %d One tells %d, %v, want %v", h.K, h.Gen, e, back, h)
	}
	if again := Put(back); !bytes.Equal(again, b) {
		t.Fatalf("of K %d, Gen %d it is % x, and then % x", h.K, h.Gen, b, again)
	}
	r := codec.New(append(b, 200))
	if h := Take(r); !hist.Same(h, back) || r.Left() != 1 || r.Err() != api.OK {
		t.Fatalf("of K %d, Gen %d Take tells %d, with %d bytes left", h.K, h.Gen, r.Err(), r.Left())
	}
}

// P11.4: whatever came, was merged, and dropped.
func TestThereAndBack(t *testing.T) {
	gens := map[int]int{}
	eachHist(t, func(h hist.Hist) {
		thereAndBack(t, h)
		gens[h.Gen]++
	})
	for gen := range 5 {
		if gens[gen] < 100 {
			t.Errorf("of Gen %d there are only %d", gen, gens[gen])
		}
	}
	for _, c := range samples() {
		thereAndBack(t, c.h)
	}
}

// P11.4: merges of merges, with events, later weight and drops between; what is read goes on as what was told.
func TestMergesThereAndBack(t *testing.T) {
	for _, k := range ks() {
		d := &dice{uint64(k)}
		all := make([][]hist.Hist, api.MaxGen+1)
		for range 4 {
			h := made(t, k)
			tick := d.below(300)
			for range 1 + d.below(200) {
				h = added(t, h, come{tick, 1 + d.below(1<<d.below(9))})
				tick += d.below(1 << d.below(9))
				thereAndBack(t, h)
			}
			all[0] = append(all[0], h)
		}
		for gen := 1; gen <= api.MaxGen; gen++ {
			for range 4 {
				var events []api.Event
				for range d.below(20) {
					events = append(events, api.Event{Tick: d.below(9999), Weight: 1 + d.below(99)})
				}
				h := merged(t, events, one(d, all[gen-1]...), one(d, all[d.below(uint64(gen))]...))
				thereAndBack(t, h)
				last, _ := hist.Last(h)
				if d.below(2) == 0 {
					h = expiry.Drop(h, last, d.below(last+2))
					thereAndBack(t, h)
				}
				h = added(t, h, come{last, 3}, come{last + d.below(999), 1 + d.below(999)})
				thereAndBack(t, h)
				back, _ := One(Put(h))
				if more := added(t, back, come{1 << 40, 7}); !hist.Same(more, added(t, h, come{1 << 40, 7})) {
					t.Fatalf("of K %d what was read goes on as another one", k)
				}
				all[gen] = append(all[gen], h)
			}
		}
	}
}

// changes calls with bytes of which one byte, or one number, is another one, is left out, or comes in.
func changes(b []byte, do func([]byte)) {
	for i := range len(b) + 1 {
		for _, d := range []byte{0, 1, 2, 3, 4, 5, 51, 52, 53, 127, 128, 129, 255} {
			do(slices.Insert(slices.Clone(b), i, d))
			if i < len(b) {
				do(with(b, i, d))
			}
		}
		if i < len(b) {
			do(with(b, i, b[i]+1))
			do(with(b, i, b[i]-1))
			do(slices.Delete(slices.Clone(b), i, i+1))
		}
	}
	starts := append(begins(b), len(b))
	for i, start := range starts[:len(starts)-1] {
		for _, n := range []uint64{0, 1, 2, 3, 4, 5, 52, 53, 1024, 1025, 1026, 1 << 62, api.MaxTick - 1, api.MaxTick, 1 << 63, math.MaxUint64} {
			do(slices.Concat(b[:start], bs(n), b[starts[i+1]:]))
		}
	}
}

// checkForm tells what is wrong, if bytes aren't told as they should be, or have another form; and tells whether they are a histogram.
func checkForm(t *testing.T, b []byte) bool {
	t.Helper()
	want := plainTake(b)
	expect(t, "bytes", b, want)
	if want.e == api.OK {
		if again := Put(want.h); !bytes.Equal(again, b[:len(b)-want.left]) {
			t.Errorf("% x are a histogram, but Put of it is % x", b, again)
		}
	}
	return want.e == api.OK && want.left == 0
}

// P11.2 to P11.4: bytes beside those that are a histogram: those that are one, too, are its only form.
func TestOnlyForm(t *testing.T) {
	some, others := 0, 0
	for _, c := range samples() {
		changes(c.b, func(b []byte) {
			if checkForm(t, b) {
				some++
			} else {
				others++
			}
		})
	}
	if some < 500 || others < 5000 {
		t.Errorf("%d are a histogram, and %d are not", some, others)
	}
}

// P11.2 to P11.4: all bytes up to a length, of few values.
func TestAllShortBytes(t *testing.T) {
	values := []byte{0, 1, 2, 3, 128}
	seen := 0
	var from func(b []byte)
	from = func(b []byte) {
		if checkForm(t, b) {
			seen++
		}
		if len(b) == 6 {
			return
		}
		for _, v := range values {
			from(append(slices.Clone(b), v))
		}
	}
	from(nil)
	// Of K 2 or 3 and Gen 0 to 3: 3 bytes without any level, 6 bytes with one unit of a tick 0 to 3. Of K 128, 256 or 384: 4 bytes without any level. More takes more bytes.
	if want := 2*4 + 2*4*4 + 3*4; seen != want {
		t.Errorf("%d are a histogram, want %d", seen, want)
	}
}

// P11.2 to P11.4: numbers as if by chance, in the shape of a histogram.
func TestNumbersByChance(t *testing.T) {
	d := &dice{1}
	seen := map[api.Errno]int{}
	for range 60000 {
		numbers := []uint64{one[uint64](d, 2, 2, 2, 3, 3, 4, 1, 1024), d.below(5)}
		levels := d.below(4)
		numbers = append(numbers, levels)
		for i := range levels {
			size := 1 + d.below(3)
			numbers = append(numbers, size)
			for range size {
				numbers = append(numbers, one[uint64](d, 0, 1, 7, 300, 1<<62, 1<<63-1, 1<<63))
				if i+1 < levels || d.below(20) == 0 {
					numbers = append(numbers, one[uint64](d, 0, 1, 7, 300, 1<<62))
				} else {
					numbers = append(numbers, 0)
				}
			}
		}
		if d.below(8) == 0 {
			numbers[d.below(uint64(len(numbers)))] = d.below(1100)
		}
		b := bs(numbers...)
		if d.below(8) == 0 {
			b = b[:d.below(uint64(len(b)))]
		}
		checkForm(t, b)
		seen[plainTake(b).e]++
	}
	if len(seen) != 3 || seen[api.OK] < 5000 || seen[api.ErrForm] < 5000 || seen[api.ErrShort] < 5000 {
		t.Errorf("the errors are seen so often: %v", seen)
	}
}

// P11.4: unlike histograms are told by unlike bytes, none of which begins with another one's.
func TestUnlikeBytes(t *testing.T) {
	known := map[string]hist.Hist{}
	eachHist(t, func(h hist.Hist) {
		if other, ok := known[string(Put(h))]; ok && !hist.Same(h, other) {
			t.Fatalf("%v is told as %v", h, other)
		}
		known[string(Put(h))] = h
	})
	for _, a := range some(t) {
		for _, b := range some(t) {
			if !hist.Same(a.h, b.h) && bytes.HasPrefix(Put(a.h), Put(b.h)) {
				t.Errorf("%s begins with %s", a.what, b.what)
			}
		}
	}
}

// roomy is a histogram with the same buckets, and room behind them, so that what is written there is seen, too.
func roomy(h hist.Hist) (hist.Hist, [][]api.Span) {
	mark := api.Span{From: 1, To: 99}
	out := hist.Hist{K: h.K, Gen: h.Gen}
	var all [][]api.Span
	for _, l := range h.Levels {
		room := append(slices.Clone(l), mark, mark)
		all = append(all, room)
		out.Levels = append(out.Levels, room[:len(l)])
	}
	return out, all
}

// R3, R4: Put writes into nothing, and tells the same again, in bytes that are new each time.
func TestPutWritesNothing(t *testing.T) {
	all := []hist.Hist{made(t, 1024, units(3000)...)}
	for _, c := range some(t) {
		all = append(all, c.h)
	}
	for _, c := range odds() {
		all = append(all, c.h)
	}
	for _, h := range all {
		given, room := roomy(h)
		_, want := roomy(h)
		list := slices.Clone(given.Levels)
		b := Put(given)
		was := bytes.Clone(b)
		clear(b)
		b = append(b, 1, 2, 3)
		if again := Put(given); !bytes.Equal(again, was) {
			t.Errorf("of K %d it is % x, and then % x", h.K, was, again)
		}
		same := slices.Equal[[]api.Span]
		if given.K != h.K || given.Gen != h.Gen || !slices.EqualFunc(given.Levels, list, same) || !slices.EqualFunc(room, want, same) {
			t.Errorf("of K %d what was handed in is another one", h.K)
		}
	}
}

// R3, R4: Take and One write into nothing, tell the same again, and share nothing with the bytes.
func TestTakeWritesNothing(t *testing.T) {
	for _, c := range some(t) {
		for _, size := range []int{len(c.b), len(c.b) - 1, len(c.b) + 1} {
			room := append(bytes.Clone(c.b), 7, 7, 7)
			b := room[:size]
			want := plainTake(b)
			expect(t, c.what, b, want)
			expect(t, c.what, b, want)
			if !bytes.Equal(room, append(bytes.Clone(c.b), 7, 7, 7)) {
				t.Errorf("%s: the bytes are % x", c.what, room)
			}
		}
		b := bytes.Clone(c.b)
		first, _ := One(b)
		second := Take(codec.New(b))
		clear(b)
		if !hist.Same(first, c.h) || !hist.Same(second, c.h) {
			t.Errorf("%s: it shares the bytes", c.what)
		}
		// No level reaches into another one, whatever its room is, and no histogram into another one.
		for i := range first.Levels {
			grown := append(first.Levels[i], api.Span{From: 1, To: 2}, api.Span{From: 3, To: 4})
			clear(grown)
			for j := range first.Levels {
				if j > i && !slices.Equal(first.Levels[j], c.h.Levels[j]) {
					t.Errorf("%s: the level %d reaches into the level %d", c.what, i, j)
				}
			}
		}
		if !hist.Same(second, c.h) {
			t.Errorf("%s: it shares another one's buckets", c.what)
		}
	}
}
