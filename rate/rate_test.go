package rate_test

import (
	"math"
	"math/rand"
	"testing"

	"signalbroker/api"
	"signalbroker/rate"
)

func TestNew(t *testing.T) {
	for _, x := range [][2]int{{0, 0}, {1, 2}, {0, 1000}, {7, 7}, {1000, 1000}} {
		b := rate.New(x[0], x[1])
		if b != (api.Bucket{Level: x[1], Rate: x[0], Burst: x[1]}) || !rate.Valid(b) {
			t.Errorf("New(%d, %d) = %v", x[0], x[1], b)
		}
	}
}

func TestValid(t *testing.T) {
	numbers := []int{math.MinInt, -1, 0, 1, 2, 999, 1000, 1001, math.MaxInt}
	for _, level := range numbers {
		for _, x := range numbers {
			for _, burst := range numbers {
				want := burst >= 0 && burst <= 1000 && x >= 0 && x <= burst && level >= 0 && level <= burst
				if b := (api.Bucket{Level: level, Rate: x, Burst: burst}); rate.Valid(b) != want {
					t.Errorf("Valid(%v) is not %v", b, want)
				}
			}
		}
	}
}

func TestTickAndTake(t *testing.T) {
	for burst := range 12 {
		for r := range burst + 1 {
			for level := range burst + 1 {
				b := api.Bucket{Level: level, Rate: r, Burst: burst}
				want := b
				want.Level = level + r
				if want.Level > burst {
					want.Level = burst
				}
				if got := rate.Tick(b); got != want {
					t.Errorf("Tick(%v) = %v", b, got)
				}
				got, ok := rate.Take(b)
				want.Level = level - 1
				if level == 0 {
					want = b
				}
				if got != want || ok != (level > 0) {
					t.Errorf("Take(%v) = %v, %v", b, got, ok)
				}
			}
		}
	}
}

func TestExample(t *testing.T) {
	b := rate.New(1, 2)
	for k, want := range []bool{true, true, false, false} {
		var ok bool
		if b, ok = rate.Take(b); ok != want {
			t.Errorf("unit %d: %v", k, ok)
		}
	}
	for k := range 5 {
		var first, second bool
		b, first = rate.Take(rate.Tick(b))
		b, second = rate.Take(b)
		if !first || second {
			t.Errorf("after tick %d: %v, %v", k, first, second)
		}
	}
}

// Between two ticks that are n ticks apart, at most Burst + n * Rate units are taken.
func TestBudget(t *testing.T) {
	r := rand.New(rand.NewSource(1))
	for range 200 {
		burst := r.Intn(20)
		b := rate.New(r.Intn(burst+1), burst)
		most := burst
		taken := 0
		for range 100 {
			for range r.Intn(2 * (burst + 1)) {
				var ok bool
				if b, ok = rate.Take(b); ok {
					taken++
				}
			}
			if taken > most || !rate.Valid(b) {
				t.Fatalf("%v: %d units, not %d", b, taken, most)
			}
			b = rate.Tick(b)
			most += b.Rate
		}
	}
}
