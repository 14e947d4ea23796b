package wide

import (
	"math"
	"math/big"
	"testing"

	"skylight/api"
)

// edges are where a half, a rest, or 64 bits begin or end.
func edges() []uint64 {
	return []uint64{
		0, 1, 2, 7, 8, 9,
		1<<32 - 1, 1 << 32, 1<<32 + 1,
		1<<61 - 3, 1<<61 - 2, 1<<61 - 1, 1 << 61, 1<<61 + 1,
		2*api.Prime - 1, 2 * api.Prime, 2*api.Prime + 1,
		7 * api.Prime, 8*api.Prime - 1, 8 * api.Prime, 8*api.Prime + 1,
		1<<63 - 1, 1 << 63, 1<<63 + 1,
		math.MaxUint64 - 1, math.MaxUint64,
	}
}

// spread are numbers of all sizes, beside the edges.
func spread() []uint64 {
	l := edges()
	for i := range 64 {
		p := uint64(1) << i
		l = append(l, p-1, p, p+1, -p)
	}
	for i := range uint64(200) {
		n := (i + 1) * 0x9e3779b97f4a7c15
		l = append(l, n, n>>(i%64))
	}
	return l
}

func bigOf(n uint64) *big.Int { return new(big.Int).SetUint64(n) }

// join is high times 2^64, and low.
func join(high, low uint64) *big.Int {
	n := bigOf(high)
	n.Lsh(n, 64)
	return n.Add(n, bigOf(low))
}

func restOf(n *big.Int) uint64 {
	return new(big.Int).Mod(n, big.NewInt(api.Prime)).Uint64()
}

// P3.1.
func TestMul(t *testing.T) {
	for _, c := range []struct{ a, b, high, low uint64 }{
		{0, 0, 0, 0},
		{0, 5, 0, 0},
		{1, math.MaxUint64, 0, math.MaxUint64},
		{3, 4, 0, 12},
		{1<<32 - 1, 1<<32 - 1, 0, 1<<64 - 1<<33 + 1},
		{1<<32 - 1, 1<<32 + 1, 0, math.MaxUint64},
		{1 << 32, 1 << 32, 1, 0},
		{1 << 63, 2, 1, 0},
		{1 << 63, 6, 3, 0},
		{1 << 63, 1 << 63, 1 << 62, 0},
		{math.MaxUint64, 2, 1, math.MaxUint64 - 1},
		{math.MaxUint64, math.MaxUint64, math.MaxUint64 - 1, 1},
	} {
		if high, low := Mul(c.a, c.b); high != c.high || low != c.low {
			t.Errorf("Mul(%d, %d) is %d, %d, want %d, %d", c.a, c.b, high, low, c.high, c.low)
		}
	}
	for _, a := range spread() {
		for _, b := range spread() {
			high, low := Mul(a, b)
			want := new(big.Int).Mul(bigOf(a), bigOf(b))
			if join(high, low).Cmp(want) != 0 {
				t.Fatalf("Mul(%d, %d) is %d, %d, want %d together", a, b, high, low, want)
			}
		}
	}
}

// P3.1.
func TestMod(t *testing.T) {
	for _, c := range []struct{ high, low, want uint64 }{
		{0, 0, 0},
		{0, 5, 5},
		{0, api.Prime - 1, api.Prime - 1},
		{0, api.Prime, 0},
		{0, api.Prime + 1, 1},
		{0, math.MaxUint64, 7},
		{1, 0, 8},
		{1, api.Prime - 8, 0},
		{api.Prime, 0, 0},
		{api.Prime, 3, 3},
		{api.Prime - 1, 0, api.Prime - 8},
		{1 << 61, 0, 8},
		{1 << 63, 0, 32},
		{math.MaxUint64, 0, 56},
		{math.MaxUint64, math.MaxUint64, 63},
	} {
		if n := Mod(c.high, c.low); n != c.want {
			t.Errorf("Mod(%d, %d) is %d, want %d", c.high, c.low, n, c.want)
		}
	}
	for _, high := range spread() {
		for _, low := range spread() {
			if n, want := Mod(high, low), restOf(join(high, low)); n != want {
				t.Fatalf("Mod(%d, %d) is %d, want %d", high, low, n, want)
			}
		}
	}
}

// P3.2.
func TestMulMod(t *testing.T) {
	for _, c := range []struct{ a, b, want uint64 }{
		{0, 0, 0},
		{0, math.MaxUint64, 0},
		{3, 4, 12},
		{1 << 61, 1, 1},
		{1 << 61, 1 << 61, 1},
		{1 << 32, 1 << 32, 8},
		{1 << 60, 2, 1},
		{api.Prime, 1, 0},
		{api.Prime, math.MaxUint64, 0},
		{api.Prime - 1, 2, api.Prime - 2},
		{api.Prime - 1, api.Prime - 1, 1},
		{1 << 63, 1 << 63, 16},
		{math.MaxUint64, 1, 7},
		{math.MaxUint64, math.MaxUint64, 49},
	} {
		if n := MulMod(c.a, c.b); n != c.want {
			t.Errorf("MulMod(%d, %d) is %d, want %d", c.a, c.b, n, c.want)
		}
	}
	for _, a := range spread() {
		for _, b := range spread() {
			if n, want := MulMod(a, b), restOf(new(big.Int).Mul(bigOf(a), bigOf(b))); n != want {
				t.Fatalf("MulMod(%d, %d) is %d, want %d", a, b, n, want)
			}
		}
	}
}

// P3.2.
func TestAddMod(t *testing.T) {
	for _, c := range []struct{ a, b, want uint64 }{
		{0, 0, 0},
		{3, 4, 7},
		{api.Prime - 1, 0, api.Prime - 1},
		{api.Prime - 1, 1, 0},
		{api.Prime - 1, api.Prime - 1, api.Prime - 2},
		{api.Prime, 0, 0},
		{api.Prime, 5, 5},
		{api.Prime, api.Prime, 0},
		{1 << 61, 1 << 61, 2},
		{1 << 63, 1 << 63, 8},
		{math.MaxUint64, 0, 7},
		{math.MaxUint64, 1, 8},
		{math.MaxUint64, math.MaxUint64, 14},
	} {
		if n := AddMod(c.a, c.b); n != c.want {
			t.Errorf("AddMod(%d, %d) is %d, want %d", c.a, c.b, n, c.want)
		}
	}
	for _, a := range spread() {
		for _, b := range spread() {
			if n, want := AddMod(a, b), restOf(new(big.Int).Add(bigOf(a), bigOf(b))); n != want {
				t.Fatalf("AddMod(%d, %d) is %d, want %d", a, b, n, want)
			}
		}
	}
}

// P3.3: with 0, and times 1, a rest stays; what is no rest becomes its own.
func TestStay(t *testing.T) {
	for _, a := range spread() {
		want := a % api.Prime
		for what, n := range map[string]uint64{
			"Mod(0, a)":    Mod(0, a),
			"AddMod(a, 0)": AddMod(a, 0),
			"AddMod(0, a)": AddMod(0, a),
			"MulMod(a, 1)": MulMod(a, 1),
			"MulMod(1, a)": MulMod(1, a),
		} {
			if n != want {
				t.Errorf("a is %d: %s is %d, want %d", a, what, n, want)
			}
		}
		if n := MulMod(a, 0); n != 0 {
			t.Errorf("MulMod(%d, 0) is %d", a, n)
		}
	}
}

// turns are all the ways in which three numbers can stand.
func turns(a, b, c uint64) [][3]uint64 {
	return [][3]uint64{{a, b, c}, {a, c, b}, {b, a, c}, {b, c, a}, {c, a, b}, {c, b, a}}
}

// wantTurns holds that three numbers are put together alike in every turn, and whichever two of them first.
func wantTurns(t *testing.T, what string, call func(a, b uint64) uint64, a, b, c, want uint64) {
	t.Helper()
	for _, x := range turns(a, b, c) {
		if n := call(call(x[0], x[1]), x[2]); n != want {
			t.Fatalf("%s of %d, the first two first: %d, want %d", what, x, n, want)
		}
		if n := call(x[0], call(x[1], x[2])); n != want {
			t.Fatalf("%s of %d, the last two first: %d, want %d", what, x, n, want)
		}
	}
}

// P3.3: rests are added, and multiplied, in whatever turn.
func TestTurns(t *testing.T) {
	for i, a := range edges() {
		for j, b := range edges()[i:] {
			for _, c := range edges()[i+j:] {
				sum := new(big.Int).Add(bigOf(a), bigOf(b))
				wantTurns(t, "AddMod", AddMod, a, b, c, restOf(sum.Add(sum, bigOf(c))))
				product := new(big.Int).Mul(bigOf(a), bigOf(b))
				wantTurns(t, "MulMod", MulMod, a, b, c, restOf(product.Mul(product, bigOf(c))))
			}
		}
	}
}

// P3.3: a product by a sum is the sum of the products by its summands.
func TestProductBySum(t *testing.T) {
	for _, a := range edges() {
		for _, b := range edges() {
			for _, c := range edges() {
				whole := MulMod(a, AddMod(b, c))
				parts := AddMod(MulMod(a, b), MulMod(a, c))
				if whole != parts {
					t.Fatalf("%d by the sum of %d and %d is %d, by each of them %d", a, b, c, whole, parts)
				}
				if turned := MulMod(AddMod(b, c), a); turned != parts {
					t.Fatalf("the sum of %d and %d by %d is %d, of each of them %d", b, c, a, turned, parts)
				}
			}
		}
	}
}
