package fixed_test

import (
	"math"
	"math/big"
	"testing"

	"stopgate/fixed"
)

type call struct {
	name  string
	do    func(a, b int64) (int64, bool)
	exact func(a, b int64) *big.Int // nil: the arguments alone rule it out
}

func calls() []call {
	return []call{
		{"Add", fixed.Add, func(a, b int64) *big.Int { return new(big.Int).Add(big.NewInt(a), big.NewInt(b)) }},
		{"Sub", fixed.Sub, func(a, b int64) *big.Int { return new(big.Int).Sub(big.NewInt(a), big.NewInt(b)) }},
		{"Mul", fixed.Mul, func(a, b int64) *big.Int { return new(big.Int).Mul(big.NewInt(a), big.NewInt(b)) }},
		{"Notional", fixed.Notional, func(a, b int64) *big.Int {
			if a < 0 || b < 0 {
				return nil
			}
			return new(big.Int).Mul(big.NewInt(a), big.NewInt(b))
		}},
	}
}

// hold holds one call against numbers that have no end.
func hold(t *testing.T, c call, a, b int64) {
	t.Helper()
	var want int64
	exact := c.exact(a, b)
	fits := exact != nil && exact.IsInt64()
	if fits {
		want = exact.Int64()
	}
	if n, ok := c.do(a, b); n != want || ok != fits {
		t.Errorf("%s(%d, %d): %d, %v; want %d, %v", c.name, a, b, n, ok, want, fits)
	}
}

// edges: the powers of two of both signs, the numbers beside them, and the ends of int64 and of its roots.
func edges() []int64 {
	l := []int64{0, 3, 10, 100, -10, -100, math.MaxInt64, math.MaxInt64 - 1, math.MinInt64, math.MinInt64 + 1, math.MinInt64 + 2}
	for i := range 63 {
		p := int64(1) << i
		l = append(l, p-1, p, p+1, 1-p, -p, -1-p)
	}
	for _, root := range []int64{3037000499, 3037000500, 2097151, 2097152} {
		l = append(l, root, -root, math.MaxInt64/root, math.MaxInt64/root+1, math.MinInt64/root, math.MinInt64/root-1)
	}
	return l
}

// P1.1 and P1: every pair of edges, so wrong inputs too; a panic fails the test.
func TestAllPairsOfEdges(t *testing.T) {
	l := edges()
	for _, c := range calls() {
		for _, a := range l {
			for _, b := range l {
				hold(t, c, a, b)
			}
		}
	}
}

// P1.1: all small numbers of both signs, and those next to either end.
func TestSmallNumbers(t *testing.T) {
	for _, c := range calls() {
		for a := int64(-40); a <= 40; a++ {
			for b := int64(-40); b <= 40; b++ {
				hold(t, c, a, b)
				hold(t, c, math.MaxInt64-40+a, b)
				hold(t, c, b, math.MaxInt64-40+a)
				hold(t, c, math.MinInt64+40+a, b)
				hold(t, c, b, math.MinInt64+40+a)
			}
		}
	}
}

// P1.1: for each divisor the last product that is a number, and the first that isn't, at both ends.
func TestProductsAtTheEnds(t *testing.T) {
	for _, c := range calls() {
		for _, b := range edges() {
			if b == 0 || b == -1 {
				continue // -2^63 can't be divided by these
			}
			for _, end := range []int64{math.MaxInt64, math.MinInt64} {
				for _, off := range []int64{-1, 0, 1} {
					if q, ok := fixed.Add(end/b, off); ok {
						hold(t, c, q, b)
						hold(t, c, b, q)
					}
				}
			}
		}
	}
}

// P1.1, by numbers written out.
func TestExamples(t *testing.T) {
	for _, c := range []struct {
		name string
		do   func(a, b int64) (int64, bool)
		a, b int64
		n    int64
		ok   bool
	}{
		{"Add", fixed.Add, 2, 3, 5, true},
		{"Add", fixed.Add, math.MaxInt64, math.MinInt64, -1, true},
		{"Add", fixed.Add, math.MaxInt64, 1, 0, false},
		{"Add", fixed.Add, math.MinInt64, -1, 0, false},
		{"Sub", fixed.Sub, 2, 3, -1, true},
		{"Sub", fixed.Sub, -1, math.MinInt64, math.MaxInt64, true},
		{"Sub", fixed.Sub, 0, math.MinInt64, 0, false},
		{"Sub", fixed.Sub, math.MinInt64, 1, 0, false},
		{"Sub", fixed.Sub, math.MinInt64, math.MinInt64, 0, true},
		{"Mul", fixed.Mul, 1 << 32, 1 << 31, 0, false},
		{"Mul", fixed.Mul, -1 << 32, 1 << 31, math.MinInt64, true},
		{"Mul", fixed.Mul, math.MinInt64, -1, 0, false},
		{"Mul", fixed.Mul, -1, math.MinInt64, 0, false},
		{"Mul", fixed.Mul, 0, math.MinInt64, 0, true},
		{"Notional", fixed.Notional, 100, 7, 700, true},
		{"Notional", fixed.Notional, 0, math.MaxInt64, 0, true},
		{"Notional", fixed.Notional, 1, math.MaxInt64, math.MaxInt64, true},
		{"Notional", fixed.Notional, 2, 1 << 62, 0, false},
		{"Notional", fixed.Notional, -1, 1, 0, false},
		{"Notional", fixed.Notional, 1, -1, 0, false},
		{"Notional", fixed.Notional, -1, -1, 0, false},
		{"Notional", fixed.Notional, -1, 0, 0, false},
		{"Notional", fixed.Notional, 0, -1, 0, false},
	} {
		if n, ok := c.do(c.a, c.b); n != c.n || ok != c.ok {
			t.Errorf("%s(%d, %d): %d, %v; want %d, %v", c.name, c.a, c.b, n, ok, c.n, c.ok)
		}
	}
}

// P1.2: wherever there is a sum, the number taken off again leaves what was; and the other way round.
func TestAddedAndTakenOff(t *testing.T) {
	l := edges()
	for _, a := range l {
		for _, b := range l {
			if sum, ok := fixed.Add(a, b); ok {
				if n, ok := fixed.Sub(sum, b); n != a || !ok {
					t.Errorf("%d and %d, less %d: %d, %v", a, b, b, n, ok)
				}
			}
			if rest, ok := fixed.Sub(a, b); ok {
				if n, ok := fixed.Add(rest, b); n != a || !ok {
					t.Errorf("%d less %d, and %d: %d, %v", a, b, b, n, ok)
				}
			}
		}
	}
}

// FuzzFixed goes on from the seeds by: go test -fuzz FuzzFixed ./fixed
func FuzzFixed(f *testing.F) {
	f.Add(int64(1<<32), int64(1<<31))
	f.Add(int64(math.MinInt64), int64(-1))
	f.Fuzz(func(t *testing.T, a, b int64) {
		for _, c := range calls() {
			hold(t, c, a, b)
		}
	})
}
