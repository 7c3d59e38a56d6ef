package worst_test

import (
	"math"
	"math/rand"
	"testing"

	"signalbroker/api"
	"signalbroker/ring"
	"signalbroker/worst"
)

// pair is the junction of chapter 9's example.
func pair() api.Junction {
	p := api.Phase{MinGreen: 2, MaxGreen: 3, Yellow: 1, Red: 1}
	return api.Junction{Phases: []api.Phase{p, p}, Conflicts: []int{2, 1}}
}

// random returns a junction that is valid.
func random(r *rand.Rand) api.Junction {
	n, groups := 1+r.Intn(8), 1+r.Intn(4)
	j := api.Junction{Conflicts: make([]int, n), Start: r.Intn(4)}
	for p := range n {
		x := api.Phase{Ring: r.Intn(2), Group: p * min(n, groups) / n, MinGreen: 1 + r.Intn(5), Yellow: 1 + r.Intn(3), Red: r.Intn(3)}
		if r.Intn(3) == 0 {
			x.Walk, x.Clear = 1+r.Intn(3), 1+r.Intn(3)
		}
		x.MaxGreen = max(x.MinGreen, x.Walk+x.Clear) + r.Intn(4)
		j.Phases = append(j.Phases, x)
	}
	for p, a := range j.Phases {
		for q, b := range j.Phases[:p] {
			if a.Ring == b.Ring || a.Group != b.Group || r.Intn(3) == 0 {
				j.Conflicts[p] |= 1 << q
				j.Conflicts[q] |= 1 << p
			}
		}
	}
	return j
}

func TestTransition(t *testing.T) {
	single := func(start int, l ...api.Phase) api.Junction { return api.Junction{Phases: l, Start: start} }
	short := api.Phase{MinGreen: 1, MaxGreen: 1, Yellow: 1}
	for _, x := range []struct {
		j    api.Junction
		want int
	}{
		{pair(), 4},
		{single(0, short), 2},
		{single(7, short), 9},
		{single(0, api.Phase{MinGreen: 2, MaxGreen: 9, Yellow: 3, Red: 4, Walk: 3, Clear: 2}), 12},
		{single(0, api.Phase{MinGreen: 6, MaxGreen: 9, Yellow: 3, Red: 4, Walk: 3, Clear: 2}), 13},
		{single(1, short, api.Phase{MinGreen: 1, MaxGreen: 60, Yellow: 2, Red: 3}, api.Phase{MinGreen: 3, MaxGreen: 60, Yellow: 1, Red: 1}), 7},
		{single(60, api.Phase{MinGreen: 60, MaxGreen: 60, Yellow: 60, Red: 60}), 240},
	} {
		if n := worst.Transition(x.j); n != x.want {
			t.Errorf("Transition(%v) = %d, not %d", x.j, n, x.want)
		}
	}
}

func expectReach(t *testing.T, name string, c api.Control, target, want int) {
	t.Helper()
	if n := worst.Reach(pair(), c, target); n != want {
		t.Errorf("%s: Reach to %d = %d, not %d", name, target, n, want)
	}
}

func TestReach(t *testing.T) {
	red := ring.Init(pair())
	expectReach(t, "all red", red, 0, 1)
	expectReach(t, "all red", red, 1, 1)
	for _, none := range []int{-1, 2, 8, math.MinInt, math.MaxInt} {
		expectReach(t, "no such phase", red, none, -1)
	}
	c := ring.Step(pair(), red, 0)
	expectReach(t, "green", c, 0, 0)
	expectReach(t, "the example", c, 1, 4)
	c = ring.Step(pair(), c, 0)
	expectReach(t, "green for two ticks", c, 0, 0)
	expectReach(t, "green for two ticks", c, 1, 3)
	for range 5 {
		c = ring.Step(pair(), c, 0)
	}
	expectReach(t, "a long green", c, 1, 3)
	c = ring.Step(pair(), c, 1)
	expectReach(t, "yellow", c, 0, 2)
	expectReach(t, "yellow", c, 1, 2)
	c = ring.Step(pair(), c, 1)
	expectReach(t, "clear", c, 0, 1)
	expectReach(t, "clear", c, 1, 1)
}

func TestReachWhileWaiting(t *testing.T) {
	j := pair()
	j.Start = 5
	c := ring.Init(j)
	for left := 5; left >= 0; left-- {
		if n := worst.Reach(j, c, 1); n != left+1 {
			t.Errorf("with %d ticks to wait: %d", left, n)
		}
		c = ring.Step(j, c, -1)
	}
}

// From every valid control every target is reached within the transition, and after as many steps as Reach says.
func TestEveryTargetIsReached(t *testing.T) {
	r := rand.New(rand.NewSource(1))
	for range 400 {
		j := random(r)
		c, target := ring.Init(j), -1
		for range 60 {
			if r.Intn(8) == 0 {
				target = r.Intn(len(j.Phases)+1) - 1
			}
			c = ring.Step(j, c, target)
			p := r.Intn(len(j.Phases))
			n := worst.Reach(j, c, p)
			if n < 0 || n > worst.Transition(j) {
				t.Fatalf("%v: %v reaches %d after %d", j, c, p, n)
			}
			x := c
			for k := range n {
				if x.Lights[p].Lamp == api.LampGreen {
					t.Fatalf("%v: %v reaches %d after %d, not %d", j, c, p, k, n)
				}
				x = ring.Step(j, x, p)
			}
			if x.Lights[p].Lamp != api.LampGreen {
				t.Fatalf("%v: %v does not reach %d after %d", j, c, p, n)
			}
		}
	}
}
