package varint

import (
	"bytes"
	"encoding/binary"
	"slices"
	"testing"

	"skylight/api"
)

// forms are numbers and the bytes that P1.1 asks of them, written out by hand.
var forms = []struct {
	n uint64
	b []byte
}{
	{0, []byte{0}},
	{1, []byte{1}},
	{126, []byte{126}},
	{127, []byte{127}},
	{128, []byte{128, 1}},
	{129, []byte{129, 1}},
	{255, []byte{255, 1}},
	{256, []byte{128, 2}},
	{300, []byte{172, 2}},
	{16383, []byte{255, 127}},
	{16384, []byte{128, 128, 1}},
	{1<<21 - 1, []byte{255, 255, 127}},
	{1 << 21, []byte{128, 128, 128, 1}},
	{1<<63 - 1, []byte{255, 255, 255, 255, 255, 255, 255, 255, 127}},
	{1 << 63, []byte{128, 128, 128, 128, 128, 128, 128, 128, 128, 1}},
	{1<<64 - 1, []byte{255, 255, 255, 255, 255, 255, 255, 255, 255, 1}},
}

// many are numbers about each power of two, and some that are spread over all of them.
func many() []uint64 {
	var l []uint64
	for i := range 64 {
		p := uint64(1) << i
		l = append(l, p-1, p, p+1, ^p, -p)
	}
	for i := range uint64(20000) {
		n := (i + 1) * 0x9e3779b97f4a7c15
		l = append(l, i, n, n>>(i%64))
	}
	return l
}

// repeat is so many times one byte, and then others.
func repeat(b byte, times int, then ...byte) []byte {
	return append(bytes.Repeat([]byte{b}, times), then...)
}

func wantTake(t *testing.T, b []byte, n uint64, k int, e api.Errno) {
	t.Helper()
	gotN, gotK, gotE := Take(b)
	if gotN != n || gotK != k || gotE != e {
		t.Errorf("Take(%v) = %d, %d, %d; want %d, %d, %d", b, gotN, gotK, gotE, n, k, e)
	}
}

// P1.1.
func TestPutForms(t *testing.T) {
	for _, f := range forms {
		if b := Put(f.n); !bytes.Equal(b, f.b) {
			t.Errorf("Put(%d) = %v, want %v", f.n, b, f.b)
		}
	}
}

// P1.1: the digits are n's own, as few as it has, and only the last byte is below 128.
func TestPutDigits(t *testing.T) {
	for _, n := range many() {
		b := Put(n)
		if want := binary.AppendUvarint(nil, n); !bytes.Equal(b, want) {
			t.Fatalf("Put(%d) = %v, want %v", n, b, want)
		}
		if end := slices.IndexFunc(b, func(x byte) bool { return x < 128 }); end != len(b)-1 {
			t.Fatalf("Put(%d) = %v: the first byte below 128 stands at %d", n, b, end)
		}
		if len(b) > 1 && b[len(b)-1] == 0 {
			t.Fatalf("Put(%d) = %v: a digit too many", n, b)
		}
	}
}

// Each answer is the caller's own.
func TestPutIsNew(t *testing.T) {
	b := Put(300)
	b[0] = 0
	if c := Put(300); !bytes.Equal(c, []byte{172, 2}) {
		t.Errorf("Put(300) = %v after an earlier answer was written to", c)
	}
}

// P1.2.
func TestTakeForms(t *testing.T) {
	for _, f := range forms {
		wantTake(t, f.b, f.n, len(f.b), api.OK)
	}
}

// P1.2: bytes that are cut off, none of them among these.
func TestTakeShort(t *testing.T) {
	wantTake(t, nil, 0, 0, api.ErrShort)
	wantTake(t, []byte{}, 0, 0, api.ErrShort)
	for _, x := range []byte{128, 129, 200, 255} {
		for times := 1; times < 10; times++ {
			wantTake(t, repeat(x, times), 0, 0, api.ErrShort)
		}
	}
	for _, f := range forms {
		for k := range len(f.b) {
			wantTake(t, f.b[:k], 0, 0, api.ErrShort)
		}
	}
}

// P1.2: a slice ends at its length, whatever its room holds behind.
func TestTakeKeepsToLength(t *testing.T) {
	b := []byte{172, 2, 7}
	wantTake(t, b[:1], 0, 0, api.ErrShort)
	wantTake(t, b[:0], 0, 0, api.ErrShort)
}

// P1.2: a last byte 0 is right as the first one alone.
func TestTakeLastZero(t *testing.T) {
	wantTake(t, []byte{0}, 0, 1, api.OK)
	wantTake(t, []byte{0, 0}, 0, 1, api.OK)
	for _, x := range []byte{128, 129, 255} {
		for times := 1; times < 10; times++ {
			wantTake(t, repeat(x, times, 0), 0, 0, api.ErrForm)
			wantTake(t, repeat(x, times, 0, 1), 0, 0, api.ErrForm)
		}
	}
}

// P1.2: ten bytes of 128 or more, with and without an end behind them.
func TestTakeTooMany(t *testing.T) {
	for _, x := range []byte{128, 129, 255} {
		wantTake(t, repeat(x, 10), 0, 0, api.ErrForm)
		wantTake(t, repeat(x, 10, 0), 0, 0, api.ErrForm)
		wantTake(t, repeat(x, 10, 1), 0, 0, api.ErrForm)
		wantTake(t, repeat(x, 30), 0, 0, api.ErrForm)
	}
}

// P1.2: of a tenth byte just 1 may be.
func TestTakeTenth(t *testing.T) {
	wantTake(t, repeat(128, 9, 1), 1<<63, 10, api.OK)
	wantTake(t, repeat(255, 9, 1), 1<<64-1, 10, api.OK)
	for x := range 256 {
		if x != 1 {
			wantTake(t, repeat(128, 9, byte(x)), 0, 0, api.ErrForm)
			wantTake(t, repeat(255, 9, byte(x)), 0, 0, api.ErrForm)
		}
	}
	for x := byte(1); x < 128; x++ {
		wantTake(t, repeat(128, 8, x), uint64(x)<<56, 9, api.OK)
	}
}

// P1.3: there and back, whatever stands behind.
func TestThereAndBack(t *testing.T) {
	tails := [][]byte{nil, {0}, {1}, {127}, {128}, {255, 255}, repeat(128, 12), repeat(0, 12)}
	for _, n := range many() {
		b := Put(n)
		for _, tail := range tails {
			wantTake(t, slices.Concat(b, tail), n, len(b), api.OK)
		}
	}
}

// P1.3: whatever bytes are taken as a number are the ones that it is put as.
func TestOneForm(t *testing.T) {
	check := func(b []byte) {
		if n, k, e := Take(b); e == api.OK && !bytes.Equal(Put(n), b[:k]) {
			t.Errorf("%v is taken as %d, that is put as %v", b[:k], n, Put(n))
		}
	}
	for x := range 256 {
		check([]byte{byte(x)})
		for y := range 256 {
			check([]byte{byte(x), byte(y)})
		}
	}
	edges := []byte{0, 1, 2, 64, 127, 128, 129, 192, 255}
	for lead := range 11 {
		for _, x := range edges {
			for _, y := range edges {
				for _, z := range edges {
					check(repeat(128, lead, x, y, z))
					check(repeat(255, lead, x, y, z))
				}
			}
		}
	}
}

// R3: what is handed in stays as it is.
func TestTakeLeavesItsBytes(t *testing.T) {
	for _, b := range [][]byte{{172, 2, 9}, {128, 0}, {128}, repeat(255, 11)} {
		was := bytes.Clone(b)
		Take(b)
		if !bytes.Equal(b, was) {
			t.Errorf("Take changed %v to %v", was, b)
		}
	}
}

// The digits end where whoever ranges over them breaks off.
func TestDigitsBreakOff(t *testing.T) {
	var got []byte
	for digit := range digits(1<<64 - 1) {
		got = append(got, digit)
		if len(got) == 3 {
			break
		}
	}
	if !bytes.Equal(got, []byte{127, 127, 127}) {
		t.Errorf("digits up to the break: %v", got)
	}
}
