package codec

import (
	"bytes"
	"encoding/binary"
	"math"
	"slices"
	"testing"

	"skylight/api"
	"skylight/varint"
)

// numbers are edges, those about each power of two, and some that are spread over all of them.
func numbers() []uint64 {
	l := []uint64{0, 1, 127, 128, 300, 16383, 16384, math.MaxInt64, math.MaxUint64}
	for i := range 64 {
		p := uint64(1) << i
		l = append(l, p-1, p, p+1, ^p, -p)
	}
	for i := range uint64(2000) {
		n := (i + 1) * 0x9e3779b97f4a7c15
		l = append(l, i, n, n>>(i%64))
	}
	return l
}

// texts are empty ones, and those about the lengths at which their number takes a byte more.
func texts() [][]byte {
	l := [][]byte{nil, {}, {0}, {255}, []byte("ab"), {128, 128}}
	for _, size := range []int{126, 127, 128, 129, 16383, 16384} {
		t := make([]byte, size)
		for i := range t {
			t[i] = byte(i * 7)
		}
		l = append(l, t)
	}
	return l
}

// state is what a reader tells of itself.
type state struct {
	left     int
	err, end api.Errno
}

func wantState(t *testing.T, what string, r *Reader, want state) {
	t.Helper()
	if got := (state{r.Left(), r.Err(), r.End()}); got != want {
		t.Errorf("%s: left, Err, End are %v, want %v", what, got, want)
	}
}

// wantStuck holds that a reader with an error reads nothing ever after, and stays where it is, whatever is asked of it.
func wantStuck(t *testing.T, what string, r *Reader, left int, e api.Errno) {
	t.Helper()
	want := state{left, e, e}
	wantState(t, what, r, want)
	for range 3 {
		if n := r.Num(math.MaxUint64); n != 0 {
			t.Errorf("%s: then a number %d is read", what, n)
		}
		wantState(t, what+", then Num", r, want)
		if n := r.Fixed(); n != 0 {
			t.Errorf("%s: then eight bytes %d are read", what, n)
		}
		wantState(t, what+", then Fixed", r, want)
		if b := r.Text(math.MaxInt); len(b) != 0 {
			t.Errorf("%s: then a text %v is read", what, b)
		}
		wantState(t, what+", then Text", r, want)
		r.Fail(api.ErrFull)
		r.Fail(api.OK)
		wantState(t, what+", then Fail", r, want)
	}
}

// P2.1.
func TestNum(t *testing.T) {
	if b := Num(300); !bytes.Equal(b, []byte{172, 2}) {
		t.Errorf("Num(300) = %v", b)
	}
	for _, n := range numbers() {
		if b, want := Num(n), varint.Put(n); !bytes.Equal(b, want) {
			t.Errorf("Num(%d) = %v, want %v", n, b, want)
		}
	}
}

// P2.1.
func TestFixed(t *testing.T) {
	for n, want := range map[uint64][]byte{
		0:                  {0, 0, 0, 0, 0, 0, 0, 0},
		1:                  {0, 0, 0, 0, 0, 0, 0, 1},
		258:                {0, 0, 0, 0, 0, 0, 1, 2},
		0x0102030405060708: {1, 2, 3, 4, 5, 6, 7, 8},
		1 << 63:            {128, 0, 0, 0, 0, 0, 0, 0},
		math.MaxUint64:     {255, 255, 255, 255, 255, 255, 255, 255},
	} {
		if b := Fixed(n); !bytes.Equal(b, want) {
			t.Errorf("Fixed(%d) = %v, want %v", n, b, want)
		}
	}
	for _, n := range numbers() {
		if b, want := Fixed(n), binary.BigEndian.AppendUint64(nil, n); !bytes.Equal(b, want) {
			t.Errorf("Fixed(%d) = %v, want %v", n, b, want)
		}
	}
}

// P2.1.
func TestText(t *testing.T) {
	if b := Text([]byte("ab")); !bytes.Equal(b, []byte{2, 'a', 'b'}) {
		t.Errorf("Text(ab) = %v", b)
	}
	if b := Text(nil); !bytes.Equal(b, []byte{0}) {
		t.Errorf("Text(nil) = %v", b)
	}
	for _, x := range texts() {
		if b, want := Text(x), slices.Concat(varint.Put(uint64(len(x))), x); !bytes.Equal(b, want) {
			t.Errorf("Text of %d bytes = %v, want %v", len(x), b, want)
		}
	}
}

// R3 and LANGUAGE 7: what is written shares nothing with what was handed in, and nothing with what was written before.
func TestWrittenIsNew(t *testing.T) {
	text := []byte("abc")
	first := Text(text)
	first[1], first[3] = 'x', 'y'
	if string(text) != "abc" {
		t.Errorf("the text has become %q", text)
	}
	for what, put := range map[string]func() []byte{
		"Num":   func() []byte { return Num(300) },
		"Fixed": func() []byte { return Fixed(300) },
		"Text":  func() []byte { return Text(text) },
	} {
		b := put()
		was := bytes.Clone(b)
		clear(b)
		if c := put(); !bytes.Equal(c, was) {
			t.Errorf("%s: %v after %v was written into", what, c, was)
		}
	}
}

// P2.2: what is next is read, and the reader goes on behind it.
func TestReadOn(t *testing.T) {
	r := New([]byte{172, 2, 3, 'a', 'b', 'c', 0, 0, 0, 0, 0, 0, 1, 2, 0, 5, 9})
	wantState(t, "begin", r, state{17, api.OK, api.ErrForm})
	if n := r.Num(1000); n != 300 {
		t.Errorf("Num: %d", n)
	}
	wantState(t, "behind a number", r, state{15, api.OK, api.ErrForm})
	if b := r.Text(3); string(b) != "abc" {
		t.Errorf("Text: %q", b)
	}
	wantState(t, "behind a text", r, state{11, api.OK, api.ErrForm})
	if n := r.Fixed(); n != 258 {
		t.Errorf("Fixed: %d", n)
	}
	wantState(t, "behind eight bytes", r, state{3, api.OK, api.ErrForm})
	if b := r.Text(10); len(b) != 0 {
		t.Errorf("empty Text: %q", b)
	}
	wantState(t, "behind an empty text", r, state{2, api.OK, api.ErrForm})
	if n := r.Num(5); n != 5 {
		t.Errorf("Num: %d", n)
	}
	wantState(t, "ahead of the last byte", r, state{1, api.OK, api.ErrForm})
	if n := r.Num(math.MaxUint64); n != 9 {
		t.Errorf("Num: %d", n)
	}
	wantState(t, "end", r, state{0, api.OK, api.OK})
}

// P2.2: a number that is just most, and one above it.
func TestNumMost(t *testing.T) {
	for _, n := range numbers() {
		b := append(Num(n), 7)
		r := New(b)
		if got := r.Num(n); got != n {
			t.Errorf("Num(%d) of %d: %d", n, n, got)
		}
		wantState(t, "just most", r, state{1, api.OK, api.ErrForm})
		if n > 0 {
			r = New(b)
			if got := r.Num(n - 1); got != 0 {
				t.Errorf("Num(%d) of %d: %d", n-1, n, got)
			}
			wantStuck(t, "above most", r, len(b), api.ErrForm)
		}
	}
	r := New([]byte{0})
	if got := r.Num(0); got != 0 {
		t.Errorf("Num(0) of 0: %d", got)
	}
	wantState(t, "0 of at most 0", r, state{0, api.OK, api.OK})
}

// P2.2: a text of just most bytes, and of one more; one below 0 counts as 0.
func TestTextMost(t *testing.T) {
	for _, x := range texts() {
		b := append(Text(x), 7)
		r := New(b)
		if got := r.Text(len(x)); !bytes.Equal(got, x) {
			t.Errorf("Text(%d): %v, want %v", len(x), got, x)
		}
		wantState(t, "just most", r, state{1, api.OK, api.ErrForm})
		for _, most := range []int{len(x) - 1, 0, -1, math.MinInt} {
			if len(x) == 0 {
				break
			}
			r = New(b)
			if got := r.Text(most); len(got) != 0 {
				t.Errorf("Text(%d) of %d bytes: %v", most, len(x), got)
			}
			wantStuck(t, "above most", r, len(b), api.ErrForm)
		}
	}
	for _, most := range []int{0, -1, -2, math.MinInt} {
		r := New([]byte{0, 7})
		if got := r.Text(most); len(got) != 0 {
			t.Errorf("Text(%d) of none: %v", most, got)
		}
		wantState(t, "none of at most none", r, state{1, api.OK, api.ErrForm})
	}
}

// wrongNumbers are bytes that varint.Take refuses, and with what.
var wrongNumbers = []struct {
	b []byte
	e api.Errno
}{
	{nil, api.ErrShort},
	{[]byte{}, api.ErrShort},
	{[]byte{128}, api.ErrShort},
	{[]byte{255, 255}, api.ErrShort},
	{bytes.Repeat([]byte{255}, 9), api.ErrShort},
	{[]byte{128, 0}, api.ErrForm},
	{[]byte{128, 0, 1, 2, 3, 4, 5, 6, 7, 8}, api.ErrForm},
	{bytes.Repeat([]byte{255}, 10), api.ErrForm},
	{append(bytes.Repeat([]byte{255}, 9), 2), api.ErrForm},
}

// P2.2: varint.Take's error, of a number and of a text's.
func TestWrongNumbers(t *testing.T) {
	for _, w := range wrongNumbers {
		for _, lead := range [][]byte{nil, {4}} {
			b := slices.Concat(lead, w.b)
			r := New(b)
			for range lead {
				r.Num(4)
			}
			if n := r.Num(math.MaxUint64); n != 0 {
				t.Errorf("Num of %v: %d", w.b, n)
			}
			wantStuck(t, "wrong number", r, len(w.b), w.e)
			r = New(b)
			for range lead {
				r.Num(4)
			}
			if x := r.Text(math.MaxInt); len(x) != 0 {
				t.Errorf("Text of %v: %v", w.b, x)
			}
			wantStuck(t, "wrong number of a text", r, len(w.b), w.e)
		}
	}
}

// P2.2: fewer than eight bytes.
func TestFixedShort(t *testing.T) {
	for size := range 8 {
		r := New(append([]byte{1}, bytes.Repeat([]byte{255}, size)...))
		r.Num(1)
		if n := r.Fixed(); n != 0 {
			t.Errorf("Fixed of %d bytes: %d", size, n)
		}
		wantStuck(t, "too few", r, size, api.ErrShort)
	}
	r := New(bytes.Repeat([]byte{255}, 8))
	if n := r.Fixed(); n != math.MaxUint64 {
		t.Errorf("Fixed of eight bytes: %d", n)
	}
	wantState(t, "just eight", r, state{0, api.OK, api.OK})
}

// P2.2: fewer bytes than a text is to have; the reader stays ahead of its number.
func TestTextShort(t *testing.T) {
	for _, x := range texts() {
		b := Text(x)
		for _, end := range []int{0, 1, len(b) / 2, len(b) - 1} {
			if end >= len(b) {
				continue
			}
			r := New(append([]byte{1}, b[:end]...))
			r.Num(1)
			if got := r.Text(math.MaxInt); len(got) != 0 {
				t.Errorf("Text of %d bytes that end at %d: %v", len(b), end, got)
			}
			wantStuck(t, "too few", r, end, api.ErrShort)
		}
	}
	for _, n := range []uint64{2, 1 << 31, 1 << 32, 1<<32 + 1, math.MaxInt64} {
		b := append(Num(n), 'a')
		r := New(b)
		if got := r.Text(math.MaxInt); len(got) != 0 {
			t.Errorf("Text of %d: %v", n, got)
		}
		wantStuck(t, "far too few", r, len(b), api.ErrShort)
	}
	for _, n := range []uint64{1 << 63, 1<<63 + 1, math.MaxUint64} {
		b := append(Num(n), 'a')
		r := New(b)
		if got := r.Text(math.MaxInt); len(got) != 0 {
			t.Errorf("Text of %d: %v", n, got)
		}
		wantStuck(t, "above every most", r, len(b), api.ErrForm)
	}
}

// P2.2 and R1: too long a text, that is also above most, is told as the one that is named first.
func TestTextAboveAheadOfShort(t *testing.T) {
	r := New([]byte{5, 'a', 'b'})
	if got := r.Text(4); len(got) != 0 {
		t.Errorf("Text: %v", got)
	}
	wantStuck(t, "above most, and short", r, 3, api.ErrForm)
}

// P2.2: a slice ends at its length, whatever its room holds behind.
func TestReaderKeepsToLength(t *testing.T) {
	b := []byte{2, 'a', 'b', 0, 0, 0, 0, 0, 9}
	r := New(b[:2])
	if got := r.Text(2); len(got) != 0 {
		t.Errorf("Text: %q", got)
	}
	wantStuck(t, "a text in the room behind", r, 2, api.ErrShort)
	r = New(b[1:8])
	if got := r.Fixed(); got != 0 {
		t.Errorf("Fixed: %d", got)
	}
	wantStuck(t, "eight bytes in the room behind", r, 7, api.ErrShort)
	r = New(b[:0])
	if got := r.Num(9); got != 0 {
		t.Errorf("Num: %d", got)
	}
	wantStuck(t, "a number in the room behind", r, 0, api.ErrShort)
}

// P2.3: of no bytes.
func TestEndOfNothing(t *testing.T) {
	wantState(t, "nil", New(nil), state{0, api.OK, api.OK})
	wantState(t, "empty", New([]byte{}), state{0, api.OK, api.OK})
	wantState(t, "one", New([]byte{0}), state{1, api.OK, api.ErrForm})
	wantState(t, "a Reader of nothing", &Reader{}, state{0, api.OK, api.OK})
}

// P2.3: End tells what was wrong, not that bytes are left; and does not itself let anything be wrong.
func TestEndIsAsked(t *testing.T) {
	r := New([]byte{6, 7})
	if r.End() != api.ErrForm || r.Err() != api.OK {
		t.Errorf("End, then Err: %v, %v", r.End(), r.Err())
	}
	if n := r.Num(6); n != 6 {
		t.Errorf("Num behind End: %d", n)
	}
	if n := r.Num(7); n != 7 || r.End() != api.OK {
		t.Errorf("Num, End: %d, %v", n, r.End())
	}
	r = New([]byte{1, 2, 3})
	r.Fixed()
	wantStuck(t, "short, with bytes left", r, 3, api.ErrShort)
}

// P2.3.
func TestFail(t *testing.T) {
	r := New([]byte{6, 7})
	r.Fail(api.OK)
	wantState(t, "OK", r, state{2, api.OK, api.ErrForm})
	if n := r.Num(6); n != 6 {
		t.Errorf("Num behind Fail(OK): %d", n)
	}
	r.Fail(api.ErrConf)
	wantStuck(t, "ErrConf", r, 1, api.ErrConf)
	r.Fail(api.ErrName)
	wantStuck(t, "ErrConf, ErrName", r, 1, api.ErrConf)
	r.Fail(api.OK)
	wantStuck(t, "ErrConf, OK", r, 1, api.ErrConf)

	r = New(nil)
	r.Fail(api.ErrGen)
	wantStuck(t, "with nothing left", r, 0, api.ErrGen)

	r = New([]byte{9})
	r.Num(8)
	r.Fail(api.ErrTick)
	wantStuck(t, "behind a number above most", r, 1, api.ErrForm)
}

// P2.3.
func TestNilReader(t *testing.T) {
	var r *Reader
	wantStuck(t, "nil", r, 0, api.ErrArg)
	r.Fail(api.OK)
	r.Fail(api.ErrConf)
	wantStuck(t, "nil that failed", r, 0, api.ErrArg)
	if n := r.Num(0); n != 0 {
		t.Errorf("Num: %d", n)
	}
	if b := r.Text(-1); len(b) != 0 {
		t.Errorf("Text: %v", b)
	}
}

// P2.4: things of all kinds, one behind the other, in several orders.
func TestThereAndBack(t *testing.T) {
	ns, ts := numbers(), texts()
	for order := range 3 {
		var b []byte
		for i, n := range ns {
			for part := range 3 {
				switch (part + order) % 3 {
				case 0:
					b = append(b, Num(n)...)
				case 1:
					b = append(b, Fixed(n)...)
				case 2:
					b = append(b, Text(ts[i%len(ts)])...)
				}
			}
		}
		was := bytes.Clone(b)
		r := New(b)
		for i, n := range ns {
			for part := range 3 {
				switch (part + order) % 3 {
				case 0:
					if got := r.Num(n); got != n {
						t.Fatalf("number %d: %d", n, got)
					}
				case 1:
					if got := r.Fixed(); got != n {
						t.Fatalf("eight bytes %d: %d", n, got)
					}
				case 2:
					if got, want := r.Text(len(ts[i%len(ts)])), ts[i%len(ts)]; !bytes.Equal(got, want) {
						t.Fatalf("text %v: %v", want, got)
					}
				}
			}
		}
		wantState(t, "end", r, state{0, api.OK, api.OK})
		if !bytes.Equal(b, was) {
			t.Error("reading has changed the bytes")
		}
	}
}

// P2 (one form): whatever is read is written as the very bytes that were read.
func TestOneForm(t *testing.T) {
	for x := range 256 {
		for y := range 256 {
			b := []byte{byte(x), byte(y), 1, 0}
			r := New(b)
			n := r.Num(math.MaxUint64)
			if k := len(b) - r.Left(); r.Err() == api.OK && !bytes.Equal(Num(n), b[:k]) {
				t.Errorf("%v is read as %d, that is written as %v", b[:k], n, Num(n))
			}
			r = New(b)
			text := r.Text(4)
			if k := len(b) - r.Left(); r.Err() == api.OK && !bytes.Equal(Text(text), b[:k]) {
				t.Errorf("%v is read as %v, that is written as %v", b[:k], text, Text(text))
			}
		}
	}
}

// R3: a text that was told is the caller's own, to write into and to append to.
func TestTextIsOwn(t *testing.T) {
	b := []byte{2, 'a', 'b', 2, 'c', 'd', 9}
	was := bytes.Clone(b)
	r := New(b)
	first := r.Text(2)
	first[0], first[1] = 'x', 'y'
	_ = append(first, 1, 'z', 'z')
	second := r.Text(2)
	if string(second) != "cd" {
		t.Errorf("the next text is %q", second)
	}
	second[0] = 'w'
	if n := r.Num(9); n != 9 {
		t.Errorf("the number behind is %d", n)
	}
	if string(first) != "xy" {
		t.Errorf("the first text has become %q", first)
	}
	if !bytes.Equal(b, was) {
		t.Errorf("the bytes have become %v", b)
	}
}

// LANGUAGE 7: bytes that are written into behind New are read as they were handed in.
func TestReaderHasItsOwnBytes(t *testing.T) {
	b := []byte{2, 'a', 'b', 5}
	r := New(b)
	clear(b)
	if text, n := r.Text(2), r.Num(5); string(text) != "ab" || n != 5 || r.End() != api.OK {
		t.Errorf("read: %q, %d, %v", text, n, r.End())
	}
}

// R4: readers of the same bytes know nothing of each other.
func TestReadersApart(t *testing.T) {
	b := []byte{1, 2, 3}
	one, other := New(b), New(b)
	one.Num(9)
	one.Fail(api.ErrKey)
	if n := other.Num(9); n != 1 {
		t.Errorf("the other one reads %d", n)
	}
	wantState(t, "the other one", other, state{2, api.OK, api.ErrForm})
	wantStuck(t, "the one", one, 2, api.ErrKey)
}
