package monitor_test

import (
	"math"
	"math/rand"
	"slices"
	"testing"

	"signalbroker/api"
	"signalbroker/monitor"
)

func TestSeen(t *testing.T) {
	lights := []api.Light{{Lamp: 0}, {Lamp: 1, Ticks: 7}, {Lamp: 2, Ticks: 1}, {Lamp: 3, Ticks: 2}, {Lamp: 4}}
	for _, x := range []struct {
		stuck int
		want  []int
	}{
		{-1, []int{0, 1, 2, 3, 4}},
		{5, []int{0, 1, 2, 3, 4}},
		{math.MinInt, []int{0, 1, 2, 3, 4}},
		{math.MaxInt, []int{0, 1, 2, 3, 4}},
		{0, []int{1, 1, 2, 3, 4}},
		{1, []int{0, 1, 2, 3, 4}},
		{2, []int{0, 1, 1, 3, 4}},
		{3, []int{0, 1, 2, 1, 4}},
		{4, []int{0, 1, 2, 3, 1}},
	} {
		if got := monitor.Seen(lights, x.stuck); !slices.Equal(got, x.want) {
			t.Errorf("Seen with stuck %d = %v, not %v", x.stuck, got, x.want)
		}
	}
	if got := monitor.Seen(nil, 0); len(got) != 0 {
		t.Errorf("Seen of no lights = %v", got)
	}
	if lights[2].Lamp != 2 {
		t.Error("the argument was changed")
	}
}

func TestForbidden(t *testing.T) {
	for _, x := range []struct {
		conflicts, lamps []int
		want             bool
	}{
		{[]int{2, 1}, []int{1, 2}, true},
		{[]int{2, 1}, []int{1, 3}, false},
		{[]int{2, 1}, []int{1, 1}, true},
		{[]int{2, 1}, []int{2, 2}, true},
		{[]int{2, 1}, []int{2, 1}, true},
		{[]int{2, 1}, []int{1, 0}, false},
		{[]int{2, 1}, []int{0, 1}, false},
		{[]int{2, 1}, []int{3, 3}, false},
		{[]int{2, 1}, []int{4, 4}, false},
		{[]int{2, 1}, []int{1, 4}, false},
		{[]int{2, 1}, []int{1}, false},
		{[]int{2, 1}, nil, false},
		{nil, []int{1, 1}, false},
		{[]int{2, 1, 0}, []int{1, 0, 1}, false},
		{[]int{4, 0, 1}, []int{1, 1, 2}, true},
		{[]int{4, 0, 1}, []int{1, 1, 0}, false},
		{[]int{0, 4, 2}, []int{1, 1, 1}, true},
		{[]int{0, 0}, []int{1, 1}, false},
		{[]int{128, 0, 0, 0, 0, 0, 0, 1}, []int{1, 0, 0, 0, 0, 0, 0, 1}, true},
		{[]int{128, 0, 0, 0, 0, 0, 0, 1}, []int{1, 1, 1, 1, 1, 1, 1, 0}, false},
	} {
		if monitor.Forbidden(x.conflicts, x.lamps) != x.want {
			t.Errorf("Forbidden(%v, %v) is not %v", x.conflicts, x.lamps, x.want)
		}
	}
}

func TestEveryPair(t *testing.T) {
	r := rand.New(rand.NewSource(1))
	for range 3000 {
		conflicts, lamps := make([]int, 1+r.Intn(8)), []int{}
		want := false
		for p := range conflicts {
			lamps = append(lamps, []int{0, 0, 0, 1, 2, 3, 4}[r.Intn(7)])
			for q := range p {
				if r.Intn(2) == 0 {
					conflicts[p] |= 1 << q
					conflicts[q] |= 1 << p
					want = want || (lamps[p] == 1 || lamps[p] == 2) && (lamps[q] == 1 || lamps[q] == 2)
				}
			}
		}
		if monitor.Forbidden(conflicts, lamps) != want {
			t.Fatalf("Forbidden(%v, %v) is not %v", conflicts, lamps, want)
		}
	}
}
