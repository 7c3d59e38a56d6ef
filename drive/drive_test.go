package drive_test

import (
	"fmt"
	"math/rand"
	"testing"

	"signalbroker/api"
	"signalbroker/arbiter"
	"signalbroker/drive"
	"signalbroker/junction"
	"signalbroker/worst"
)

func config() api.Config { return api.Config{Period: 4, Cap: 3, Hold: 2, Lockout: 3} }

// crossing has the phases 0 and 1 in ring 0, and 2, which conflicts with neither, in ring 1.
func crossing() api.Junction {
	p := func(ring int) api.Phase {
		return api.Phase{Ring: ring, MinGreen: 2, MaxGreen: 3, Yellow: 1, Red: 1}
	}
	return api.Junction{Phases: []api.Phase{p(0), p(0), p(1)}, Conflicts: []int{2, 1, 0}}
}

func claim(phase, class int) api.Claim {
	return api.Claim{ID: phase, Phase: phase, Class: class}
}

func expect(t *testing.T, name string, got, want any) {
	t.Helper()
	if fmt.Sprint(got) != fmt.Sprint(want) {
		t.Errorf("%s: %v, not %v", name, got, want)
	}
}

// One claim for a phase that is red: the target is set at once, and Green counts from the tick in which the phase is green.
func TestExample(t *testing.T) {
	s, v := junction.New(crossing()), arbiter.New(3)
	s, v = drive.Step(config(), crossing(), s, v, nil, -1, 1)
	expect(t, "without claims", v, arbiter.New(3))
	expect(t, "without claims", junction.Lamps(s), []int{1, 0, 1})
	for k, x := range []struct {
		lamps        []int
		phase, green int
		ended        int
	}{
		{[]int{1, 0, 1}, 1, 0, -1},
		{[]int{2, 0, 1}, 1, 0, -1},
		{[]int{3, 0, 2}, 1, 0, -1},
		{[]int{0, 1, 3}, 1, 1, -1},
		{[]int{0, 1, 1}, 1, 2, -1},
		{[]int{0, 1, 1}, -1, 0, 7},
		{[]int{0, 2, 1}, -1, 0, 7},
		{[]int{0, 3, 2}, -1, 0, 7},
		{[]int{0, 0, 3}, -1, 0, 7},
		{[]int{0, 1, 1}, 1, 1, 7},
	} {
		now := k + 2
		s, v = drive.Step(config(), crossing(), s, v, []api.Claim{claim(1, 1)}, -1, now)
		want := api.Service{Phase: x.phase, Green: x.green, Ended: []int{-1, x.ended, -1}}
		expect(t, fmt.Sprint("service at ", now), v, want)
		expect(t, fmt.Sprint("lamps at ", now), junction.Lamps(s), x.lamps)
	}
}

func TestLatchedStays(t *testing.T) {
	s := junction.New(crossing())
	s.Latched = true
	v := api.Service{Phase: 1, Green: 2, Ended: []int{4, -1, -1}}
	x, y := drive.Step(config(), crossing(), s, v, []api.Claim{claim(0, 3), claim(1, 1)}, 0, 9)
	expect(t, "the signal", x, s)
	expect(t, "the service", y, api.Service{Phase: -1, Ended: []int{4, 9, -1}})
	v.Green = 0
	_, y = drive.Step(config(), crossing(), s, v, []api.Claim{claim(1, 1)}, 0, 9)
	expect(t, "a service that was not green", y, api.Service{Phase: -1, Ended: []int{4, -1, -1}})
	_, y = drive.Step(config(), crossing(), s, y, []api.Claim{claim(1, 1)}, 0, 10)
	expect(t, "no service begins", y, api.Service{Phase: -1, Ended: []int{4, -1, -1}})
}

func TestLatchEndsTheService(t *testing.T) {
	s, v := junction.New(crossing()), arbiter.New(3)
	l := []api.Claim{claim(0, 1)}
	s, v = drive.Step(config(), crossing(), s, v, l, -1, 1)
	expect(t, "before", v, api.Service{Phase: 0, Green: 1, Ended: []int{-1, -1, -1}})
	x, y := drive.Step(config(), crossing(), s, v, l, 2, 2)
	expect(t, "stuck without a conflict", x.Latched, false)
	expect(t, "stuck without a conflict", y, api.Service{Phase: 0, Green: 2, Ended: []int{-1, -1, -1}})
	x, y = drive.Step(config(), crossing(), s, v, l, 1, 2)
	expect(t, "stuck", x.Latched, true)
	expect(t, "stuck", y, api.Service{Phase: -1, Ended: []int{2, -1, -1}})
	_, y = drive.Step(config(), crossing(), junction.New(crossing()), arbiter.New(3), l, 1, 2)
	expect(t, "stuck in the first tick of green", y, arbiter.New(3))
}

// Every tick is that of the parts, in the order of the document.
func TestParts(t *testing.T) {
	r := rand.New(rand.NewSource(1))
	for range 200 {
		s, v := junction.New(crossing()), arbiter.New(3)
		for now := 1; now < 60; now++ {
			var l []api.Claim
			for range r.Intn(3) {
				l = append(l, api.Claim{ID: r.Intn(3), Phase: r.Intn(3), Class: r.Intn(4), Since: r.Intn(now)})
			}
			stuck := -1
			if r.Intn(20) == 0 {
				stuck = r.Intn(3)
			}
			want := arbiter.Decide(config(), v, l, now)
			next := junction.Step(crossing(), s, want.Phase, stuck)
			switch {
			case s.Latched:
				next, want = s, arbiter.End(v, now)
			case next.Latched:
				want = arbiter.End(want, now)
			default:
				want = arbiter.Count(want, want.Phase >= 0 && next.Control.Lights[want.Phase].Lamp == api.LampGreen)
			}
			kept := fmt.Sprint(s, v, l)
			x, y := drive.Step(config(), crossing(), s, v, l, stuck, now)
			expect(t, "signal", x, next)
			expect(t, "service", y, want)
			expect(t, "arguments", fmt.Sprint(s, v, l), kept)
			if s, v = x, y; s.Latched && r.Intn(4) == 0 {
				s, _ = junction.Reset(crossing(), s)
			}
			if !arbiter.Valid(v, 3) || !junction.Valid(crossing(), s) {
				t.Fatalf("%v, %v are not valid", s, v)
			}
		}
	}
}

// What is served becomes green within the longest transition.
func TestServedInTime(t *testing.T) {
	for phase := range 3 {
		for before := range 14 {
			s, v := junction.New(crossing()), arbiter.New(3)
			for now := range before {
				s, v = drive.Step(config(), crossing(), s, v, nil, -1, now)
			}
			ticks := 0
			for green := false; !green; ticks++ {
				s, v = drive.Step(config(), crossing(), s, v, []api.Claim{claim(phase, 1)}, -1, before+ticks)
				green = s.Control.Lights[phase].Lamp == api.LampGreen
				if ticks > worst.Transition(crossing()) {
					t.Fatalf("phase %d after %d ticks is not served in time", phase, before)
				}
			}
		}
	}
}
