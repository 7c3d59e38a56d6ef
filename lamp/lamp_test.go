package lamp_test

import (
	"math"
	"testing"

	"signalbroker/api"
	"signalbroker/lamp"
)

// phases returns phases of valid junctions.
func phases() []api.Phase {
	return []api.Phase{
		{MinGreen: 2, MaxGreen: 3, Yellow: 1, Red: 0},
		{MinGreen: 1, MaxGreen: 1, Yellow: 1, Red: 1},
		{MinGreen: 1, MaxGreen: 9, Yellow: 3, Red: 2},
		{MinGreen: 2, MaxGreen: 9, Yellow: 2, Red: 3, Walk: 3, Clear: 4},
		{MinGreen: 8, MaxGreen: 9, Yellow: 2, Red: 1, Walk: 3, Clear: 4},
		{MinGreen: 7, MaxGreen: 7, Yellow: 4, Red: 4, Walk: 3, Clear: 4},
		{MinGreen: 60, MaxGreen: 60, Yellow: 60, Red: 60, Walk: 30, Clear: 30},
	}
}

func green(ticks int) api.Light  { return api.Light{Lamp: api.LampGreen, Ticks: ticks} }
func yellow(ticks int) api.Light { return api.Light{Lamp: api.LampYellow, Ticks: ticks} }
func cleared(ticks int) api.Light {
	return api.Light{Lamp: api.LampClear, Ticks: ticks}
}

var red = api.Light{}

func TestValid(t *testing.T) {
	for _, p := range phases() {
		last := map[int]int{api.LampRed: 0, api.LampGreen: api.MaxTick, api.LampYellow: p.Yellow - 1, api.LampClear: p.Red - 1}
		for lamps := -2; lamps < 8; lamps++ {
			most, known := last[lamps]
			for _, ticks := range []int{math.MinInt, -1, 0, 1, 2, 3, 4, 59, 60, 61, api.MaxTick - 1, api.MaxTick, api.MaxTick + 1, math.MaxInt} {
				want := known && ticks >= 0 && ticks <= most
				if lamp.Valid(p, api.Light{Lamp: lamps, Ticks: ticks}) != want {
					t.Errorf("%v: lamp %d with %d ticks is not %v", p, lamps, ticks, want)
				}
			}
		}
	}
}

func TestNeed(t *testing.T) {
	for k, want := range []int{2, 1, 1, 7, 8, 7, 60} {
		if n := lamp.Need(phases()[k]); n != want {
			t.Errorf("Need of %v = %d, not %d", phases()[k], n, want)
		}
	}
}

func TestNonRed(t *testing.T) {
	for lamps, want := range map[int]bool{-1: false, api.LampRed: false, api.LampGreen: true, api.LampYellow: true, api.LampClear: false, api.LampFlash: false, 5: false} {
		for _, ticks := range []int{0, 1, 5} {
			if lamp.NonRed(api.Light{Lamp: lamps, Ticks: ticks}) != want {
				t.Errorf("NonRed of the lamp %d is not %v", lamps, want)
			}
		}
	}
}

func expectStep(t *testing.T, p api.Phase, l api.Light, leave bool, want api.Light) {
	t.Helper()
	if got := lamp.Step(p, l, leave); got != want {
		t.Errorf("Step(%v, %v, %v) = %v, not %v", p, l, leave, got, want)
	}
	if !lamp.Valid(p, want) {
		t.Errorf("%v is not valid", want)
	}
}

func TestStep(t *testing.T) {
	plain := api.Phase{MinGreen: 2, MaxGreen: 3, Yellow: 3, Red: 2}
	walkers := api.Phase{MinGreen: 2, MaxGreen: 9, Yellow: 1, Red: 1, Walk: 3, Clear: 2}
	quick := api.Phase{MinGreen: 1, MaxGreen: 1, Yellow: 1, Red: 0}
	slow := api.Phase{MinGreen: 1, MaxGreen: 1, Yellow: 2, Red: 0}
	for _, leave := range []bool{false, true} {
		expectStep(t, plain, red, leave, red)
		expectStep(t, plain, green(0), leave, green(1))
		expectStep(t, walkers, green(0), leave, green(1))
		expectStep(t, walkers, green(1), leave, green(2))
		expectStep(t, walkers, green(3), leave, green(4))
		expectStep(t, plain, yellow(0), leave, yellow(1))
		expectStep(t, plain, yellow(1), leave, yellow(2))
		expectStep(t, plain, yellow(2), leave, cleared(0))
		expectStep(t, quick, yellow(0), leave, red)
		expectStep(t, slow, yellow(0), leave, yellow(1))
		expectStep(t, slow, yellow(1), leave, red)
		expectStep(t, walkers, yellow(0), leave, cleared(0))
		expectStep(t, plain, cleared(0), leave, cleared(1))
		expectStep(t, plain, cleared(1), leave, red)
		expectStep(t, walkers, cleared(0), leave, red)
	}
	expectStep(t, plain, green(1), true, yellow(0))
	expectStep(t, plain, green(2), true, yellow(0))
	expectStep(t, plain, green(api.MaxTick), true, yellow(0))
	expectStep(t, walkers, green(4), true, yellow(0))
	expectStep(t, quick, green(0), true, yellow(0))
	expectStep(t, plain, green(1), false, green(2))
	expectStep(t, plain, green(2), false, green(3))
	expectStep(t, plain, green(100), false, green(101))
	expectStep(t, plain, green(api.MaxTick-1), false, green(api.MaxTick))
	expectStep(t, plain, green(api.MaxTick), false, green(api.MaxTick))
	expectStep(t, walkers, green(4), false, green(5))
}

// A green that is to end at once lasts exactly Need ticks, and ends through its full yellow and red.
func TestWholeCycle(t *testing.T) {
	for _, p := range phases() {
		l, lasts := green(0), map[int]int{}
		for l.Lamp != api.LampRed {
			lasts[l.Lamp]++
			if !lamp.Valid(p, l) {
				t.Fatalf("%v: %v is not valid", p, l)
			}
			l = lamp.Step(p, l, true)
		}
		if l != red || lasts[api.LampGreen] != lamp.Need(p) || lasts[api.LampYellow] != p.Yellow || lasts[api.LampClear] != p.Red {
			t.Errorf("%v: %v, %v", p, l, lasts)
		}
	}
}

// Count is the number of steps for which the lamp stays, if it is left as soon as it may.
func TestCount(t *testing.T) {
	for _, p := range phases() {
		for l := green(0); l.Lamp != api.LampRed; l = lamp.Step(p, l, true) {
			steps := 0
			for x := lamp.Step(p, l, true); x.Lamp == l.Lamp; x = lamp.Step(p, x, true) {
				steps++
			}
			if n := lamp.Count(p, l); n != steps {
				t.Errorf("Count(%v, %v) = %d, not %d", p, l, n, steps)
			}
		}
		for _, ticks := range []int{lamp.Need(p) - 1, lamp.Need(p), lamp.Need(p) + 1, api.MaxTick} {
			if n := lamp.Count(p, green(ticks)); n != 0 {
				t.Errorf("Count(%v, green %d) = %d", p, ticks, n)
			}
		}
		if n := lamp.Count(p, red); n != 0 {
			t.Errorf("Count(%v, red) = %d", p, n)
		}
	}
	p := api.Phase{MinGreen: 5, MaxGreen: 9, Yellow: 4, Red: 3}
	if lamp.Count(p, green(1)) != 3 || lamp.Count(p, yellow(1)) != 2 || lamp.Count(p, cleared(1)) != 1 {
		t.Error("counts of the example")
	}
}

func TestWalk(t *testing.T) {
	p := api.Phase{MinGreen: 2, MaxGreen: 9, Yellow: 9, Red: 9, Walk: 3, Clear: 2}
	for ticks, want := range []int{1, 1, 1, 2, 2, 0, 0, 0} {
		if w := lamp.Walk(p, green(ticks)); w != want {
			t.Errorf("Walk of green %d = %d, not %d", ticks, w, want)
		}
		if w := lamp.Walk(p, yellow(ticks)) + lamp.Walk(p, cleared(ticks)); w != 0 {
			t.Errorf("Walk of other lights = %d", w)
		}
	}
	if lamp.Walk(p, red) != 0 || lamp.Walk(p, green(api.MaxTick)) != 0 {
		t.Error("Walk of red, or of a long green")
	}
	for ticks := range 4 {
		if w := lamp.Walk(api.Phase{MinGreen: 2, MaxGreen: 9, Yellow: 1}, green(ticks)); w != 0 {
			t.Errorf("Walk without pedestrians = %d", w)
		}
	}
}
