package rights_test

import (
	"math"
	"testing"

	"signalbroker/rights"
)

// numbers are rights and what is no rights.
func numbers() []int {
	l := []int{math.MinInt, -64, 64, 127, 128, 1 << 40, math.MaxInt}
	for r := -3; r < 70; r++ {
		l = append(l, r)
	}
	return l
}

func isRights(r int) bool { return r >= 0 && r < 64 }

// need is what the document says of the kinds: 2^n is needed.
func need(kind int) int {
	return map[int]int{6: 1, 7: 1, 8: 1, 4: 2, 5: 2, 2: 4, 3: 8, 10: 16, 11: 32}[kind]
}

func TestValid(t *testing.T) {
	for _, r := range numbers() {
		if rights.Valid(r) != isRights(r) {
			t.Errorf("Valid(%d) is not %v", r, isRights(r))
		}
	}
}

func TestWithin(t *testing.T) {
	for _, a := range numbers() {
		for _, b := range numbers() {
			want := isRights(a) && isRights(b) && a|b == b
			if rights.Within(a, b) != want {
				t.Errorf("Within(%d, %d) is not %v", a, b, want)
			}
		}
	}
}

func TestNeeded(t *testing.T) {
	for kind := -5; kind < 300; kind++ {
		if n := rights.Needed(kind); n != need(kind) {
			t.Errorf("Needed(%d) = %d, not %d", kind, n, need(kind))
		}
	}
	if rights.Needed(math.MinInt) != 0 || rights.Needed(math.MaxInt) != 0 {
		t.Error("a great kind needs a right")
	}
}

func TestPermits(t *testing.T) {
	if !rights.Permits(2, 5) || rights.Permits(2, 8) || !rights.Permits(0, 1) {
		t.Error("the examples")
	}
	for _, r := range numbers() {
		for kind := -2; kind < 30; kind++ {
			want := isRights(r) && r&need(kind) == need(kind)
			if rights.Permits(r, kind) != want {
				t.Errorf("Permits(%d, %d) is not %v", r, kind, want)
			}
		}
	}
}
