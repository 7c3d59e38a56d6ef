package junction_test

import (
	"math/rand"
	"slices"
	"testing"

	"signalbroker/api"
	"signalbroker/junction"
	"signalbroker/ring"
)

func phase(ring, group int) api.Phase {
	return api.Phase{Ring: ring, Group: group, MinGreen: 2, MaxGreen: 3, Yellow: 1, Red: 1}
}

// crossing has the phases 0 and 1 in ring 0, and 2, which conflicts with neither, in ring 1.
func crossing() api.Junction {
	return api.Junction{Phases: []api.Phase{phase(0, 0), phase(0, 0), phase(1, 0)}, Conflicts: []int{2, 1, 0}, Start: 1}
}

func equal(a, b api.Signal) bool {
	x, y := a.Control, b.Control
	return a.Latched == b.Latched && slices.Equal(x.Lights, y.Lights) && slices.Equal(x.Next, y.Next) && x.Group == y.Group && x.Wait == y.Wait
}

// after returns the signal after so many steps without a target.
func after(n int) api.Signal {
	s := junction.New(crossing())
	for range n {
		s = junction.Step(crossing(), s, -1, -1)
	}
	return s
}

func TestNew(t *testing.T) {
	if s := junction.New(crossing()); !equal(s, api.Signal{Control: ring.Init(crossing())}) {
		t.Errorf("New = %v", s)
	}
}

func TestValid(t *testing.T) {
	s := after(3)
	for _, latched := range []bool{false, true} {
		s.Latched = latched
		if !junction.Valid(crossing(), s) {
			t.Error("a signal is not valid")
		}
		x := s
		x.Control.Group = 1
		if junction.Valid(crossing(), x) {
			t.Error("a signal with another group is valid")
		}
		x = s
		x.Control.Lights = s.Control.Lights[:2]
		if junction.Valid(crossing(), x) {
			t.Error("a signal with a light less is valid")
		}
	}
}

func TestStepFollowsTheRing(t *testing.T) {
	r := rand.New(rand.NewSource(1))
	for range 50 {
		s := junction.New(crossing())
		for range 60 {
			target := r.Intn(5) - 1
			want := ring.Step(crossing(), s.Control, target)
			s = junction.Step(crossing(), s, target, -1)
			if !equal(s, api.Signal{Control: want}) {
				t.Fatalf("Step to %d = %v, not %v", target, s, want)
			}
		}
	}
}

// The monitor looks at the lights after the step.
func TestStuck(t *testing.T) {
	// Without a target, phase 0 is green after the steps 2, 3 and 4, yellow after 5, clear after 6, and 1 green after 7.
	for n, x := range []struct{ lit, other int }{1: {0, 1}, 2: {0, 1}, 3: {0, 1}, 4: {0, 1}, 5: {-1, -1}, 6: {1, 0}} {
		for stuck := -2; stuck < 5; stuck++ {
			s := junction.Step(crossing(), after(n), -1, stuck)
			want := x.lit != x.other && stuck == x.other
			if s.Latched != want {
				t.Errorf("after %d steps with stuck %d it is latched: %v", n, stuck, s.Latched)
			}
			if !equal(s, api.Signal{Control: ring.Step(crossing(), after(n).Control, -1), Latched: want}) {
				t.Errorf("after %d steps with stuck %d it is %v", n, stuck, s)
			}
		}
	}
	s := junction.Step(crossing(), after(3), -1, 1)
	if lamps := junction.Lamps(s); !slices.Equal(lamps, []int{4, 4, 4}) {
		t.Errorf("the example shows %v", lamps)
	}
}

func TestLatchedStays(t *testing.T) {
	s := junction.Step(crossing(), after(3), -1, 1)
	if !s.Latched {
		t.Fatal("it is not latched")
	}
	for target := -1; target < 4; target++ {
		for stuck := -1; stuck < 4; stuck++ {
			if x := junction.Step(crossing(), s, target, stuck); !equal(x, s) {
				t.Errorf("a latched signal changes: %v", x)
			}
		}
	}
}

func TestReset(t *testing.T) {
	s := after(4)
	if x, ok := junction.Reset(crossing(), s); ok || !equal(x, s) {
		t.Errorf("Reset = %v, %v", x, ok)
	}
	s.Latched = true
	if x, ok := junction.Reset(crossing(), s); !ok || !equal(x, junction.New(crossing())) {
		t.Errorf("Reset of a latched signal = %v, %v", x, ok)
	}
}

func TestLamps(t *testing.T) {
	for n, want := range [][]int{{0, 0, 0}, {0, 0, 0}, {1, 0, 1}, {1, 0, 1}, {1, 0, 1}, {2, 0, 2}, {3, 0, 3}, {0, 1, 0}} {
		s := after(n)
		if l := junction.Lamps(s); !slices.Equal(l, want) {
			t.Errorf("after %d steps: %v", n, l)
		}
		s.Latched = true
		if l := junction.Lamps(s); !slices.Equal(l, []int{4, 4, 4}) {
			t.Errorf("latched after %d steps: %v", n, l)
		}
	}
	if l := junction.Lamps(api.Signal{Latched: true}); len(l) != 0 {
		t.Errorf("without lights: %v", l)
	}
}

func TestResultsAreNewMemory(t *testing.T) {
	s := after(4)
	kept := after(4)
	for _, latched := range []bool{false, true} {
		s.Latched, kept.Latched = latched, latched
		x := junction.Step(crossing(), s, 1, -1)
		y, _ := junction.Reset(crossing(), s)
		for _, z := range []api.Signal{x, y} {
			z.Control.Lights[0].Ticks, z.Control.Next[0] = 50, 50
		}
		if !equal(s, kept) {
			t.Error("a result shares memory with the argument")
		}
	}
}
