package window_test

import (
	"math"
	"testing"

	"signalbroker/api"
	"signalbroker/window"
)

func leg(junction, phase, from, to, since int) api.Leg {
	return api.Leg{Junction: junction, Phase: phase, From: from, To: to, Since: since}
}

func TestMake(t *testing.T) {
	const big = api.MaxTick
	for _, x := range []struct {
		junction, phase, from, to, now int
		want                           api.Leg
	}{
		{0, 1, 2, 5, 10, leg(0, 1, 12, 15, -1)},
		{0, 0, 0, 0, 0, leg(0, 0, 0, 0, -1)},
		{3, 7, 600, 600, big, leg(3, 7, big+600, big+600, -1)},
		{1, 2, 0, 600, 1, leg(1, 2, 1, 601, -1)},
	} {
		got, e := window.Make(x.junction, x.phase, x.from, x.to, x.now)
		if got != x.want || e != api.OK || !window.Valid(got) {
			t.Errorf("Make %v = %v, %d", x, got, e)
		}
	}
	for _, x := range [][5]int{
		{-1, 0, 1, 2, 5}, {4, 0, 1, 2, 5}, {math.MinInt, 0, 1, 2, 5}, {math.MaxInt, 0, 1, 2, 5},
		{0, -1, 1, 2, 5}, {0, 8, 1, 2, 5}, {0, math.MaxInt, 1, 2, 5},
		{0, 0, -1, 2, 5}, {0, 0, math.MinInt, 2, 5}, {0, 0, -5, -1, 5},
		{0, 0, 3, 2, 5}, {0, 0, 600, 599, 5}, {0, 0, 601, 601, 5}, {0, 0, 0, 601, 5}, {0, 0, 0, math.MaxInt, 5}, {0, 0, math.MaxInt, math.MaxInt, 5},
		{0, 0, 1, 2, -1}, {0, 0, 1, 2, big + 1}, {0, 0, 1, 2, math.MinInt}, {0, 0, 1, 2, math.MaxInt},
	} {
		if got, e := window.Make(x[0], x[1], x[2], x[3], x[4]); got != (api.Leg{}) || e != api.ErrRange {
			t.Errorf("Make %v = %v, %d", x, got, e)
		}
	}
}

func TestValid(t *testing.T) {
	const big = api.MaxTick
	for _, x := range []struct {
		l    api.Leg
		want bool
	}{
		{leg(0, 0, 0, 0, 0), true},
		{leg(3, 7, 5, 9, -1), true},
		{leg(-1, 0, 0, 0, 0), false},
		{leg(4, 0, 0, 0, 0), false},
		{leg(0, -1, 0, 0, 0), false},
		{leg(0, 8, 0, 0, 0), false},
		{leg(0, 0, -1, 0, 0), false},
		{leg(0, 0, -2, -1, 0), false},
		{leg(0, 0, 6, 6, 0), true},
		{leg(0, 0, 7, 6, 0), false},
		{leg(0, 0, 0, 2*big, 0), true},
		{leg(0, 0, 2*big, 2*big, 0), true},
		{leg(0, 0, 0, 2*big+1, 0), false},
		{leg(0, 0, 2*big+1, 2*big+1, 0), false},
		{leg(0, 0, 0, math.MaxInt, 0), false},
		{leg(0, 0, 0, 1, -2), false},
		{leg(0, 0, 0, 1, math.MinInt), false},
		{leg(0, 0, 0, 1, big), true},
		{leg(0, 0, 0, 1, big+1), false},
	} {
		if window.Valid(x.l) != x.want {
			t.Errorf("Valid(%v) is not %v", x.l, x.want)
		}
	}
}

func TestLive(t *testing.T) {
	for from := range 5 {
		for to := range 5 {
			for now := -1; now < 7; now++ {
				want := from <= now && now <= to
				for _, since := range []int{-1, 0, 3} {
					if window.Live(leg(1, 1, from, to, since), now) != want {
						t.Errorf("from %d to %d at %d: it is not %v", from, to, now, want)
					}
				}
			}
		}
	}
	if window.Live(leg(0, 0, 0, 9, 0), math.MinInt) || window.Live(leg(0, 0, 0, 9, 0), math.MaxInt) {
		t.Error("a great number is within a window")
	}
}

func TestMark(t *testing.T) {
	for _, x := range []struct {
		since, now, want int
	}{
		{-1, 11, -1}, {-1, 12, 12}, {-1, 13, 13}, {-1, 15, 15}, {-1, 16, -1},
		{12, 11, -1}, {12, 12, 12}, {12, 13, 12}, {12, 15, 12}, {12, 16, -1},
		{0, 14, 0}, {14, 13, 14}, {0, 16, -1}, {0, 0, -1},
	} {
		l := leg(2, 3, 12, 15, x.since)
		want := l
		want.Since = x.want
		if got := window.Mark(l, x.now); got != want {
			t.Errorf("Mark of %v at %d = %v, not %v", l, x.now, got, want)
		}
	}
}

// Marked at every tick, Since is the first tick of the span in which the leg has been live.
func TestMarkAtEveryTick(t *testing.T) {
	l, _ := window.Make(0, 1, 2, 5, 10)
	for now := 9; now < 20; now++ {
		l = window.Mark(l, now)
		if want := now >= 12 && now <= 15; want && l.Since != 12 || !want && l.Since != -1 {
			t.Errorf("at %d: %d", now, l.Since)
		}
	}
	l.From, l.To = 20, 25
	if l = window.Mark(l, 21); l.Since != 21 {
		t.Errorf("after a break: %d", l.Since)
	}
	l.From, l.To = 22, 30
	if l = window.Mark(l, 22); l.Since != 21 {
		t.Errorf("without a break: %d", l.Since)
	}
}
