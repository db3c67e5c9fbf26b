package status

import (
	"math"
	"math/big"
	"slices"
	"testing"

	"oakum/api"
	"oakum/geom"
)

const mostSeconds = 1000

// right are geometries that may be, at their edges and between.
func right() []geom.Geom {
	var l []geom.Geom
	for _, origin := range []int{1, 2, 3, 4, 7, 12, 13, 14, 25, 26, 27, 100, 127, 128, 129, 1000, 65537, diskEnd - 1, diskEnd} {
		for _, chunk := range []int{1, 2, 3, 4, 13, 63, 64, 127, chunkEnd} {
			l = append(l, geom.Geom{Origin: origin, Chunk: chunk})
		}
	}
	return l
}

// wrong are geometries that may not be.
func wrong() []geom.Geom {
	var l []geom.Geom
	beyond := []int{math.MinInt, math.MinInt32, -1 << 32, -1, 0}
	for _, origin := range append(beyond, diskEnd+1, math.MaxInt32, 1<<32, 1<<32+1, math.MaxInt) {
		for _, chunk := range []int{1, 2, chunkEnd} {
			l = append(l, geom.Geom{Origin: origin, Chunk: chunk})
		}
	}
	for _, chunk := range append(beyond, chunkEnd+1, math.MaxInt32, 1<<32, 1<<32+1, math.MaxInt) {
		for _, origin := range []int{0, 1, 2, 100, diskEnd, diskEnd + 1} {
			l = append(l, geom.Geom{Origin: origin, Chunk: chunk})
		}
	}
	return l
}

// rates are those that may be.
func rates() []float64 {
	l := []float64{
		0, math.Copysign(0, -1), math.SmallestNonzeroFloat64, 1e-300, 1e-9, 0.001, 0.1, 0.25, 1.0 / 3, 0.5, 0.7, 0.999, 1, 1.001, 1.5, 2, 2.9, 3, 10, 12.5, 13, 14,
		99.99, 100, 1000, 1048.576, 12345.678, 1 << 19, diskEnd - 1, diskEnd, diskEnd + 1, 1 << 31, 1 << 32, 1 << 53, 1 << 61, 1 << 62, 1 << 63, 1 << 64, 1e30, 1e300, math.MaxFloat64,
	}
	for _, x := range slices.Clone(l[2:]) {
		l = append(l, math.Nextafter(x, 0))
		if x < math.MaxFloat64 {
			l = append(l, math.Nextafter(x, math.Inf(1)))
		}
	}
	return l
}

// wrongRates are those that may not be.
func wrongRates() []float64 {
	return []float64{
		math.NaN(), math.Float64frombits(0x7ff0000000000001), math.Float64frombits(0xfff8000000000000), math.Inf(1), math.Inf(-1),
		-math.SmallestNonzeroFloat64, -0.5, -1, -1e300, -math.MaxFloat64,
	}
}

// wrongSeconds are those that may not be.
func wrongSeconds() []int {
	return []int{math.MinInt, math.MinInt + 1, math.MinInt32, -1 << 32, -1001, -1000, -2, -1, 1001, 1002, 1 << 20, math.MaxInt32, 1 << 32, 1<<32 + 1, math.MaxInt - 1, math.MaxInt}
}

// needed is the least whole number that is not below a rate times n, of fractions that are exact, and at most most.
func needed(rate float64, n, most int) int {
	product := new(big.Rat).Mul(new(big.Rat).SetFloat64(rate), new(big.Rat).SetInt64(int64(n)))
	if product.Cmp(new(big.Rat).SetInt64(int64(most))) >= 0 {
		return most
	}
	whole := new(big.Int).Quo(product.Num(), product.Denom())
	if !product.IsInt() {
		whole.Add(whole, big.NewInt(1))
	}
	return int(whole.Int64())
}

func siteOf(g geom.Geom) site { return site{0, g.Origin, g.Chunk} }

// checkEstimate holds an estimate against a number of chunks.
func checkEstimate(t testing.TB, g geom.Geom, rate float64, n, want int) {
	t.Helper()
	chunks, sectors, err := Estimate(g, rate, n)
	if size := siteOf(g).size(want); chunks != want || sectors != size || err != api.OK {
		t.Errorf("Estimate(%v, %g, %d) = %d, %d, %d, want %d, %d", g, rate, n, chunks, sectors, err, want, size)
	}
}

func checkNoEstimate(t testing.TB, g geom.Geom, rate float64, n int) {
	t.Helper()
	if chunks, sectors, err := Estimate(g, rate, n); chunks != 0 || sectors != 0 || err != api.ErrArg {
		t.Errorf("Estimate(%v, %g, %d) = %d, %d, %d", g, rate, n, chunks, sectors, err)
	}
}

// P22.1, S2: estimates.

func TestEstimates(t *testing.T) {
	g := geom.Geom{Origin: 100, Chunk: 4} // 25 chunks
	for _, x := range []struct {
		rate            float64
		n               int
		chunks, sectors int
	}{
		{0, 0, 1, 6}, {0, 1000, 1, 6}, {math.Copysign(0, -1), 7, 1, 6}, {5, 0, 1, 6}, {1e300, 0, 1, 6}, {math.MaxFloat64, 0, 1, 6},
		{math.SmallestNonzeroFloat64, 1, 1, 6}, {0.001, 999, 1, 6}, {0.5, 1, 1, 6}, {0.5, 2, 1, 6}, {0.5, 3, 2, 10}, {0.5, 5, 3, 14},
		{1, 1, 1, 6}, {1, 2, 2, 10}, {1, 13, 13, 54}, {1, 14, 14, 59}, {1, 24, 24, 99}, {1, 25, 25, 103}, {1, 26, 25, 103}, {1, 1000, 25, 103},
		{math.Nextafter(1, 2), 1, 2, 10}, {math.Nextafter(1, 2), 24, 25, 103}, {math.Nextafter(1, 2), 25, 25, 103}, {math.Nextafter(1, 0), 24, 24, 99},
		{0.1, 10, 2, 10}, {0.1, 9, 1, 6}, {0.3, 10, 3, 14}, {2.4, 10, 24, 99}, {2.5, 10, 25, 103}, {12, 2, 24, 99}, {12.25, 2, 25, 103},
		{24.5, 1, 25, 103}, {25, 1, 25, 103}, {25.5, 1, 25, 103}, {100, 1000, 25, 103}, {1 << 40, 1, 25, 103},
		{1 << 61, 1, 25, 103}, {1 << 61, 2, 25, 103}, {math.Nextafter(1<<62, 0), 1, 25, 103}, {1 << 62, 1, 25, 103}, {1 << 63, 1, 25, 103},
		{1e30, 1, 25, 103}, {1e300, 1, 25, 103}, {1e300, 1000, 25, 103}, {math.MaxFloat64, 1, 25, 103}, {math.MaxFloat64, 1000, 25, 103},
	} {
		chunks, sectors, err := Estimate(g, x.rate, x.n)
		if chunks != x.chunks || sectors != x.sectors || err != api.OK {
			t.Errorf("Estimate(%v, %g, %d) = %d, %d, %d, want %d, %d", g, x.rate, x.n, chunks, sectors, err, x.chunks, x.sectors)
		}
	}
}

// Each geometry at its edges, with each rate that may be, and seconds from 0 to a thousand.
func TestManyEstimates(t *testing.T) {
	for _, g := range right() {
		all := siteOf(g).chunks()
		for _, rate := range rates() {
			for _, n := range []int{0, 1, 2, 3, 10, 13, 60, 999, mostSeconds} {
				checkEstimate(t, g, rate, n, max(1, needed(rate, n, all)))
			}
		}
	}
}

// Needs about 1, about each number of chunks, and about all of them.
func TestNeedsAtEdges(t *testing.T) {
	for _, g := range []geom.Geom{{Origin: 1, Chunk: 1}, {Origin: 3, Chunk: 5}, {Origin: 7, Chunk: 2}, {Origin: 40, Chunk: 1}, {Origin: 128, Chunk: 3}, {Origin: diskEnd, Chunk: 128}} {
		all := siteOf(g).chunks()
		for k := range min(all, 50) + 3 {
			for n := 1; n <= mostSeconds; n = n*3 + 1 {
				rate := float64(k) / float64(n)
				for _, x := range []float64{math.Nextafter(rate, 0), rate, math.Nextafter(rate, math.Inf(1))} {
					checkEstimate(t, g, x, n, max(1, needed(x, n, all)))
				}
			}
			checkEstimate(t, g, float64(k), 1, min(max(1, k), all))
			checkEstimate(t, g, 1, k, min(max(1, k), all))
		}
		for _, more := range []int{-1, 0, 1} {
			checkEstimate(t, g, float64(all+more), 1, min(max(1, all+more), all))
		}
	}
}

// Many rates in no order.
func TestAnyEstimates(t *testing.T) {
	r := numbers(5)
	for range 20000 {
		g := geom.Geom{Origin: 1 + r.below(1<<r.below(21)), Chunk: 1 + r.below(chunkEnd)}
		rate := math.Ldexp(float64(r.below(1<<40)), r.below(80)-70)
		n := r.below(mostSeconds + 1)
		checkEstimate(t, g, rate, n, max(1, needed(rate, n, siteOf(g).chunks())))
	}
}

func TestWrongEstimates(t *testing.T) {
	some := []geom.Geom{{Origin: 1, Chunk: 1}, {Origin: 100, Chunk: 4}, {Origin: diskEnd, Chunk: 1}}
	seconds := append(wrongSeconds(), 0, 1, 60, mostSeconds)
	for _, g := range append(some, wrong()...) {
		for _, rate := range wrongRates() {
			for _, n := range seconds {
				checkNoEstimate(t, g, rate, n)
			}
		}
	}
	for _, g := range append(some, wrong()...) {
		for _, rate := range rates() {
			for _, n := range wrongSeconds() {
				checkNoEstimate(t, g, rate, n)
			}
		}
	}
	for _, g := range wrong() {
		for _, rate := range rates() {
			for _, n := range seconds {
				checkNoEstimate(t, g, rate, n)
			}
		}
	}
}

// P22.1, S2: all chunks.

func checkWhole(t testing.TB, g geom.Geom) {
	t.Helper()
	want := siteOf(g).chunks()
	chunks, sectors, err := Whole(g)
	if size := siteOf(g).size(want); chunks != want || sectors != size || err != api.OK {
		t.Errorf("Whole(%v) = %d, %d, %d, want %d, %d", g, chunks, sectors, err, want, size)
	}
}

func TestWhole(t *testing.T) {
	for _, x := range []struct {
		g               geom.Geom
		chunks, sectors int
	}{
		{geom.Geom{Origin: 1, Chunk: 1}, 1, 3}, {geom.Geom{Origin: 1, Chunk: 128}, 1, 130}, {geom.Geom{Origin: 100, Chunk: 4}, 25, 103},
		{geom.Geom{Origin: 13, Chunk: 1}, 13, 15}, {geom.Geom{Origin: 14, Chunk: 1}, 14, 17}, {geom.Geom{Origin: 101, Chunk: 4}, 26, 107}, {geom.Geom{Origin: 105, Chunk: 4}, 27, 112},
		{geom.Geom{Origin: diskEnd, Chunk: 1}, 1048576, 1129237}, {geom.Geom{Origin: diskEnd, Chunk: 128}, 8192, 1049208}, {geom.Geom{Origin: diskEnd - 1, Chunk: 128}, 8192, 1049208},
	} {
		chunks, sectors, err := Whole(x.g)
		if chunks != x.chunks || sectors != x.sectors || err != api.OK {
			t.Errorf("Whole(%v) = %d, %d, %d, want %d, %d", x.g, chunks, sectors, err, x.chunks, x.sectors)
		}
	}
	for _, g := range right() {
		checkWhole(t, g)
	}
	for origin := 1; origin <= 400; origin++ {
		for chunk := 1; chunk <= chunkEnd; chunk++ {
			checkWhole(t, geom.Geom{Origin: origin, Chunk: chunk})
		}
	}
}

func TestWrongWhole(t *testing.T) {
	for _, g := range wrong() {
		if chunks, sectors, err := Whole(g); chunks != 0 || sectors != 0 || err != api.ErrArg {
			t.Errorf("Whole(%v) = %d, %d, %d", g, chunks, sectors, err)
		}
	}
}

// What is estimated is what a store is created with, and its line tells of it.
func TestEstimatedStores(t *testing.T) {
	for _, x := range append(sites(), site{3000, 500, 7}, site{900, 300, 1}) {
		for _, rate := range []float64{0, 0.3, 1, 4.5, 1e9, 1e300} {
			chunks, sectors, err := Estimate(x.geom(), rate, 4)
			if err != api.OK {
				t.Fatal(err)
			}
			b := x.bench(t, creating(chunks))
			if slot, err := b.volume.Engine().Slot(1); slot.Store.Len != sectors || err != api.OK {
				t.Errorf("of %v a store with room for %d chunks has %d sectors, %d, but %d were estimated", x, chunks, slot.Store.Len, err, sectors)
			}
			b.checkTells(t, x.sectors-firstOrigin-x.origin-sectors, 0, Line{ID: 1, Room: chunks, Left: chunks})
		}
	}
}
