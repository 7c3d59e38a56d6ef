package arbiter_test

import (
	"math"
	"math/rand"
	"slices"
	"testing"

	"signalbroker/api"
	"signalbroker/arbiter"
	"signalbroker/rank"
)

func claim(phase, class, since int) api.Claim {
	return api.Claim{Agency: 1, ID: phase, Phase: phase, Class: class, Since: since}
}

func service(phase, green int, ended ...int) api.Service {
	return api.Service{Phase: phase, Green: green, Ended: ended}
}

func equal(a, b api.Service) bool {
	return a.Phase == b.Phase && a.Green == b.Green && slices.Equal(a.Ended, b.Ended)
}

func config() api.Config { return api.Config{Period: 10, Cap: 5, Hold: 3, Lockout: 4} }

func TestNew(t *testing.T) {
	for n := range 9 {
		s := arbiter.New(n)
		if !equal(s, service(-1, 0, slices.Repeat([]int{-1}, n)...)) || !arbiter.Valid(s, n) {
			t.Errorf("New(%d) = %v", n, s)
		}
	}
	arbiter.New(-1)
	arbiter.New(math.MinInt)
}

func TestValid(t *testing.T) {
	for _, x := range []struct {
		s      api.Service
		phases int
		want   bool
	}{
		{service(-1, 0, -1, -1), 2, true},
		{service(-1, 0, -1, -1), 3, false},
		{service(-1, 0, -1, -1), 1, false},
		{service(-1, 0, -1, -1), -2, false},
		{service(-1, 1, -1, -1), 2, false},
		{service(-1, -1, -1, -1), 2, false},
		{service(-2, 0, -1, -1), 2, false},
		{service(0, 0, -1, -1), 2, true},
		{service(1, 0, -1, -1), 2, true},
		{service(2, 0, -1, -1), 2, false},
		{service(math.MaxInt, 0, -1, -1), 2, false},
		{service(1, 60, -1, -1), 2, true},
		{service(1, 61, -1, -1), 2, false},
		{service(1, -1, -1, -1), 2, false},
		{service(1, 1, 0, api.MaxTick), 2, true},
		{service(1, 1, -2, 5), 2, false},
		{service(1, 1, 5, api.MaxTick+1), 2, false},
		{service(-1, 0), 0, true},
		{service(0, 0), 0, false},
	} {
		if arbiter.Valid(x.s, x.phases) != x.want {
			t.Errorf("Valid(%v, %d) is not %v", x.s, x.phases, x.want)
		}
	}
}

func TestEnd(t *testing.T) {
	for _, x := range []struct{ s, want api.Service }{
		{service(-1, 0, 3, -1), service(-1, 0, 3, -1)},
		{service(0, 0, 3, -1), service(-1, 0, 3, -1)},
		{service(1, 0, 3, 4), service(-1, 0, 3, 4)},
		{service(0, 1, 3, 4), service(-1, 0, 9, 4)},
		{service(1, 60, 3, -1), service(-1, 0, 3, 9)},
	} {
		if got := arbiter.End(x.s, 9); !equal(got, x.want) {
			t.Errorf("End(%v) = %v", x.s, got)
		}
	}
	s := service(0, 1, 3, 4)
	arbiter.End(s, 9)
	if s.Ended[0] != 3 {
		t.Error("the argument was changed")
	}
}

func TestCount(t *testing.T) {
	for _, x := range []struct {
		s     api.Service
		green bool
		want  api.Service
	}{
		{service(1, 0, 5, 6), true, service(1, 1, 5, 6)},
		{service(1, 0, 5, 6), false, service(1, 0, 5, 6)},
		{service(0, 7, 5, 6), true, service(0, 8, 5, 6)},
		{service(0, 59, 5, 6), true, service(0, 60, 5, 6)},
		{service(0, 60, 5, 6), true, service(0, 60, 5, 6)},
		{service(0, 60, 5, 6), false, service(0, 60, 5, 6)},
		{service(-1, 0, 5, 6), true, service(-1, 0, 5, 6)},
		{service(-1, 0, 5, 6), false, service(-1, 0, 5, 6)},
	} {
		got := arbiter.Count(x.s, x.green)
		if !equal(got, x.want) {
			t.Errorf("Count(%v, %v) = %v", x.s, x.green, got)
		}
		got.Ended[0] = 50
		if x.s.Ended[0] != 5 {
			t.Error("the argument was changed")
		}
	}
}

func expectDecide(t *testing.T, name string, s api.Service, l []api.Claim, now int, want api.Service) {
	t.Helper()
	kept := slices.Clone(s.Ended)
	if got := arbiter.Decide(config(), s, l, now); !equal(got, want) {
		t.Errorf("%s: %v, not %v", name, got, want)
	}
	if !slices.Equal(s.Ended, kept) {
		t.Errorf("%s: the argument was changed", name)
	}
}

func TestDecide(t *testing.T) {
	old := []int{-1, -1, -1}
	idle := service(-1, 0, old...)
	transit, police, fire := claim(0, 1, 3), claim(1, 2, 5), claim(2, 3, 5)
	expectDecide(t, "nothing to do", idle, nil, 9, idle)
	expectDecide(t, "the first service", idle, []api.Claim{transit}, 9, service(0, 0, old...))
	expectDecide(t, "the best claim", idle, []api.Claim{transit, police}, 9, service(1, 0, old...))
	expectDecide(t, "a service that goes on", service(0, 2, old...), []api.Claim{transit}, 9, service(0, 2, old...))
	expectDecide(t, "a better claim does not end it", service(0, 2, old...), []api.Claim{transit, claim(1, 1, 0)}, 90, service(0, 2, old...))
	expectDecide(t, "no claim any more", service(0, 2, old...), nil, 9, service(-1, 0, 9, -1, -1))
	expectDecide(t, "no claim any more, before it was green", service(0, 0, old...), nil, 9, idle)
	expectDecide(t, "a claim for another phase", service(0, 2, old...), []api.Claim{claim(1, 0, 5)}, 9, service(1, 0, 9, -1, -1))
	expectDecide(t, "the hold is over", service(0, 3, old...), []api.Claim{transit}, 9, service(-1, 0, 9, -1, -1))
	expectDecide(t, "long over", service(0, 60, old...), []api.Claim{transit}, 9, service(-1, 0, 9, -1, -1))
	expectDecide(t, "the hold is over, and the next one", service(0, 3, old...), []api.Claim{transit, claim(1, 0, 8)}, 9, service(1, 0, 9, -1, -1))
	expectDecide(t, "an emergency comes", service(0, 2, old...), []api.Claim{transit, police}, 9, service(1, 0, 9, -1, -1))
	expectDecide(t, "an emergency comes before green", service(0, 0, old...), []api.Claim{transit, police}, 9, service(1, 0, old...))
	expectDecide(t, "an emergency for the phase", service(1, 2, old...), []api.Claim{transit, police}, 9, service(1, 2, old...))
	expectDecide(t, "a greater emergency does not end it", service(1, 2, old...), []api.Claim{police, fire}, 9, service(1, 2, old...))
	expectDecide(t, "an emergency of its own beside transit", service(0, 2, old...), []api.Claim{transit, claim(0, 2, 8), fire}, 9, service(0, 2, old...))
	expectDecide(t, "the hold of an emergency is over", service(1, 3, old...), []api.Claim{police, fire}, 9, service(2, 0, -1, 9, -1))
	expectDecide(t, "an emergency begins anew", service(1, 3, old...), []api.Claim{police}, 9, service(1, 0, -1, 9, -1))
	expectDecide(t, "locked", service(-1, 0, 5, -1, -1), []api.Claim{transit}, 9, service(-1, 0, 5, -1, -1))
	expectDecide(t, "not locked any more", service(-1, 0, 5, -1, -1), []api.Claim{transit}, 10, service(0, 0, 5, -1, -1))
}

func TestExample(t *testing.T) {
	cfg := config()
	cfg.Hold = 2
	l := []api.Claim{claim(0, 0, 1)}
	s := arbiter.Decide(cfg, arbiter.New(2), l, 1)
	s = arbiter.Decide(cfg, arbiter.Count(s, true), l, 2)
	if !equal(s, service(0, 1, -1, -1)) {
		t.Errorf("after one tick: %v", s)
	}
	s = arbiter.Decide(cfg, arbiter.Count(s, true), l, 3)
	if !equal(s, service(-1, 0, 3, -1)) || !rank.Locked(cfg, s, l[0], 3) {
		t.Errorf("after two ticks: %v", s)
	}
}

// A service is for a phase with a claim, ends in time, and no locked phase is served but for emergencies.
func TestRandomClaims(t *testing.T) {
	r := rand.New(rand.NewSource(1))
	for range 300 {
		cfg := api.Config{Period: 1 + r.Intn(4), Cap: r.Intn(5), Hold: 1 + r.Intn(3), Lockout: r.Intn(6)}
		s := arbiter.New(3)
		for now := 1; now < 60; now++ {
			var l []api.Claim
			for range r.Intn(4) {
				l = append(l, api.Claim{Agency: r.Intn(2), ID: r.Intn(4), Phase: r.Intn(3), Class: []int{0, 0, 1, 1, 2, 3}[r.Intn(6)], Since: r.Intn(now)})
			}
			next := arbiter.Decide(cfg, s, l, now)
			if want := oracle(cfg, s, l, now); !equal(next, want) || !arbiter.Valid(next, 3) {
				t.Fatalf("%v: Decide(%v, %v, %d) = %v, not %v", cfg, s, l, now, next, want)
			}
			s = arbiter.Count(next, r.Intn(3) > 0)
		}
	}
}

func oracle(cfg api.Config, s api.Service, l []api.Claim, now int) api.Service {
	s.Ended = slices.Clone(s.Ended)
	claimed, urgent, mine := false, false, false
	for _, c := range l {
		claimed = claimed || c.Phase == s.Phase
		urgent = urgent || c.Class >= 2
		mine = mine || c.Class >= 2 && c.Phase == s.Phase
	}
	if s.Phase >= 0 && (!claimed || s.Green >= cfg.Hold || urgent && !mine) {
		if s.Green > 0 {
			s.Ended[s.Phase] = now
		}
		s.Phase, s.Green = -1, 0
	}
	if k := rank.Best(cfg, s, now, l); s.Phase < 0 && k >= 0 {
		s.Phase = l[k].Phase
	}
	return s
}
