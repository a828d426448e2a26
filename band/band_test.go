package band_test

import (
	"math"
	"math/big"
	"testing"

	"stopgate/api"
	"stopgate/band"
)

const third = 1.0 / 3 // as a float64 a little less than that

// fractions are rising; 0 and -0 are one.
func fractions() []float64 {
	return []float64{
		math.Copysign(0, -1), 0, math.SmallestNonzeroFloat64, math.Float64frombits(1<<52 - 1), math.Float64frombits(1 << 52),
		1e-300, 0x1p-41, math.Nextafter(0x1p-40, 0), 0x1p-40, math.Nextafter(0x1p-40, 1), 1e-9,
		0.005, math.Nextafter(0.01, 0), 0.01, 0.05, math.Nextafter(0.1, 0), 0.1, math.Nextafter(0.1, 1), 0.29,
		math.Nextafter(third, 0), third, math.Nextafter(third, 1), math.Nextafter(0.5, 0), 0.5, math.Nextafter(0.5, 1), 0.57,
		0.99, math.Nextafter(1, 0), 1, math.Nextafter(1, 2), 1.1, 2, math.Pi, 10, 99.99, 1e6,
		math.Nextafter(api.MaxPrice, 0), api.MaxPrice, math.Nextafter(api.MaxPrice, math.Inf(1)), api.MaxPrice + 1,
		0x1p53, 0x1p62, math.Nextafter(0x1p63, 0), 0x1p63, 0x1p64, 1e300, math.MaxFloat64, math.Inf(1),
	}
}

func wrongFractions() []float64 {
	return []float64{
		math.NaN(), math.Float64frombits(0x7FF0000000000001), math.Float64frombits(0xFFF8000000000000), math.Float64frombits(math.MaxUint64),
		math.Inf(-1), -math.MaxFloat64, -1, -0.1, -0.05, -1e-300, -math.SmallestNonzeroFloat64,
	}
}

func prices() []int64 {
	l := []int64{1, 2, 3, 5, 6, 7, 9, 10, 49, 50, 97, 99, 100, 101, 120, 1000, 123456789, api.MaxPrice - 1, api.MaxPrice}
	for i := 3; i < 40; i++ {
		l = append(l, 1<<i-1, 1<<i, 1<<i+1)
	}
	return l
}

func wrongPrices() []int64 {
	return []int64{0, -1, -100, -api.MaxPrice, math.MinInt64, math.MinInt64 + 1, api.MaxPrice + 1, 1 << 53, 1 << 62, math.MaxInt64}
}

// collar works the document's words out by numbers without an end; price and fraction are right ones.
func collar(price int64, fraction float64) (int64, int64) {
	d := big.NewInt(api.MaxPrice)
	if !math.IsInf(fraction, 1) {
		exact := new(big.Rat).SetFloat64(fraction)
		exact.Mul(exact, new(big.Rat).SetInt64(price))
		if near, _ := exact.Float64(); !math.IsInf(near, 1) { // to nearest, ties to even
			whole, _ := new(big.Float).SetFloat64(near).Int(nil)
			if whole.Cmp(d) < 0 {
				d = whole
			}
		}
	}
	lo := new(big.Int).Sub(big.NewInt(price), d)
	if lo.Sign() < 1 {
		lo.SetInt64(1)
	}
	hi := new(big.Int).Add(big.NewInt(price), d)
	if hi.Cmp(big.NewInt(api.MaxPrice)) > 0 {
		hi.SetInt64(api.MaxPrice)
	}
	return lo.Int64(), hi.Int64()
}

// P2.1: which fractions there are.
func TestRight(t *testing.T) {
	for _, f := range fractions() {
		if !band.Right(f) {
			t.Error(f, "isn't right")
		}
	}
	for _, f := range wrongFractions() {
		if band.Right(f) {
			t.Error(f, "is right")
		}
	}
}

// P2.1, by numbers written out.
func TestCollarExamples(t *testing.T) {
	const most = api.MaxPrice
	for _, c := range []struct {
		price    int64
		fraction float64
		lo, hi   int64
		ok       bool
	}{
		{100, 0.05, 95, 105, true},
		{100, math.Inf(1), 1, most, true},
		{100, math.Copysign(0, -1), 100, 100, true},
		{100, 0, 100, 100, true},
		{100, math.SmallestNonzeroFloat64, 100, 100, true},
		{100, 0.009, 100, 100, true},
		{100, 0.99, 1, 199, true},
		{100, 1, 1, 200, true},
		{100, 0.29, 72, 128, true}, // the product is 28.999999999999996
		{100, 0.57, 44, 156, true}, // 56.99999999999999
		{3, third, 2, 4, true},     // a tie between 1 and the number below it: to 1
		{3, math.Nextafter(third, 0), 3, 3, true},
		{10, 0.1, 9, 11, true}, // rounded to 1
		{1, math.Nextafter(1, 0), 1, 1, true},
		{1, 1, 1, 2, true},
		{1, most - 1, 1, most, true},
		{1, math.Nextafter(most, 0), 1, most, true},
		{2, most - 2, 1, most, true},
		{1, most - 2, 1, most - 1, true},
		{2, most/2 - 2, 1, most - 2, true},
		{100, 1e300, 1, most, true},
		{most, math.MaxFloat64, 1, most, true}, // the product is infinite
		{most, 0, most, most, true},
		{most, 0x1p-40, most - 1, most, true},
		{most, math.Nextafter(0x1p-40, 0), most, most, true},
		{most, math.Nextafter(1, 0), 1, most, true},
		{most, 0.5, most / 2, most, true},
		{0, 0.1, 0, 0, false},
		{-1, 0.1, 0, 0, false},
		{math.MinInt64, 0.1, 0, 0, false},
		{most + 1, 0, 0, 0, false},
		{math.MaxInt64, 0.1, 0, 0, false},
		{100, math.NaN(), 0, 0, false},
		{100, -0.1, 0, 0, false},
		{100, -math.SmallestNonzeroFloat64, 0, 0, false},
		{100, math.Inf(-1), 0, 0, false},
		{0, math.NaN(), 0, 0, false},
	} {
		lo, hi, ok := band.Collar(c.price, c.fraction)
		if lo != c.lo || hi != c.hi || ok != c.ok {
			t.Errorf("Collar(%d, %v): %d, %d, %v; want %d, %d, %v", c.price, c.fraction, lo, hi, ok, c.lo, c.hi, c.ok)
		}
	}
}

// P2.1: against numbers without an end.
func TestCollarOfAll(t *testing.T) {
	for _, p := range prices() {
		for _, f := range fractions() {
			wantLo, wantHi := collar(p, f)
			if lo, hi, ok := band.Collar(p, f); lo != wantLo || hi != wantHi || !ok {
				t.Errorf("Collar(%d, %v): %d, %d, %v; want %d, %d", p, f, lo, hi, ok, wantLo, wantHi)
			}
		}
	}
}

// P2.1 and P1: whatever is wrong, there is no collar, and nothing is within.
func TestNoCollar(t *testing.T) {
	refuse := func(p int64, f float64) {
		if lo, hi, ok := band.Collar(p, f); lo != 0 || hi != 0 || ok {
			t.Errorf("Collar(%d, %v): %d, %d, %v", p, f, lo, hi, ok)
		}
		for _, at := range []int64{p, 0, 1, 100, api.MaxPrice, math.MaxInt64, math.MinInt64} {
			if band.Within(p, at, f) {
				t.Errorf("%d is within %d, %v", at, p, f)
			}
		}
	}
	for _, f := range wrongFractions() {
		for _, p := range append(prices(), wrongPrices()...) {
			refuse(p, f)
		}
	}
	for _, p := range wrongPrices() {
		for _, f := range fractions() {
			refuse(p, f)
		}
	}
}

// P2.1: both ends of the collar are within, what is beside them isn't.
func TestWithin(t *testing.T) {
	for _, p := range prices() {
		for _, f := range fractions() {
			lo, hi := collar(p, f)
			for at, want := range map[int64]bool{lo: true, hi: true, lo - 1: false, hi + 1: false, 0: false, -p: false, math.MinInt64: false, math.MaxInt64: false} {
				if band.Within(p, at, f) != want {
					t.Errorf("Within(%d, %d, %v) isn't %v", p, at, f, want)
				}
			}
		}
	}
}

// P2.2: of a greater fraction the collar is no narrower; the price itself is within.
func TestGreaterFraction(t *testing.T) {
	for _, p := range prices() {
		last, lastLo, lastHi := 0.0, p, p
		for _, f := range fractions() {
			if f < last {
				t.Fatal("the fractions aren't rising at", f)
			}
			lo, hi, ok := band.Collar(p, f)
			if !ok || lo > lastLo || hi < lastHi {
				t.Errorf("Collar(%d, %v): %d, %d, %v behind %d, %d", p, f, lo, hi, ok, lastLo, lastHi)
			}
			if !band.Within(p, p, f) {
				t.Errorf("%d isn't within its own collar of %v", p, f)
			}
			last, lastLo, lastHi = f, lo, hi
		}
	}
}

// P2.1: the same, of all pairs: right ones by their number, wrong ones all alike.
func TestSame(t *testing.T) {
	right, wrong := fractions(), wrongFractions()
	for i, a := range right {
		for j, b := range right {
			want := i == j || i < 2 && j < 2 // the first two are the noughts
			if band.Same(a, b) != want {
				t.Errorf("Same(%v, %v) isn't %v", a, b, want)
			}
		}
		for _, b := range wrong {
			if band.Same(a, b) || band.Same(b, a) {
				t.Error(a, "is the same as", b)
			}
		}
	}
	for _, a := range wrong {
		for _, b := range wrong {
			if !band.Same(a, b) {
				t.Error(a, "isn't the same as", b)
			}
		}
	}
}

// FuzzBand goes on from the seeds by: go test -fuzz FuzzBand ./band
func FuzzBand(f *testing.F) {
	f.Add(int64(100), int64(105), math.Float64bits(0.05))
	f.Add(int64(3), int64(4), math.Float64bits(third))
	f.Add(int64(api.MaxPrice), int64(1), math.Float64bits(math.Inf(1)))
	f.Add(int64(0), int64(0), math.Float64bits(math.NaN()))
	f.Fuzz(func(t *testing.T, price, at int64, bits uint64) {
		fraction := math.Float64frombits(bits)
		right := !math.IsNaN(fraction) && (fraction == 0 || !math.Signbit(fraction))
		lo, hi, ok := band.Collar(price, fraction)
		var wantLo, wantHi int64
		wantOk := right && price >= 1 && price <= api.MaxPrice
		if wantOk {
			wantLo, wantHi = collar(price, fraction)
		}
		if band.Right(fraction) != right || lo != wantLo || hi != wantHi || ok != wantOk {
			t.Errorf("Collar(%d, %v): %d, %d, %v; want %d, %d, %v", price, fraction, lo, hi, ok, wantLo, wantHi, wantOk)
		}
		if band.Within(price, at, fraction) != (wantOk && at >= wantLo && at <= wantHi) {
			t.Errorf("Within(%d, %d, %v)", price, at, fraction)
		}
	})
}
