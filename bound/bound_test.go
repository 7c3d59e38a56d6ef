package bound_test

import (
	"fmt"
	"math"
	"math/rand"
	"testing"

	"signalbroker/api"
	"signalbroker/bound"
	"signalbroker/broker"
	"signalbroker/message"
	"signalbroker/token"
)

const secret = "12345678"

func agency(requests int) api.Agency {
	return api.Agency{Secret: []byte(secret), Rights: 63, Class: 3, Limits: []int{4, 4, 4, 4}, Requests: requests, Sessions: 1, Rate: 20, Burst: 50}
}

func phase(ring int) api.Phase {
	return api.Phase{Ring: ring, MinGreen: 2, MaxGreen: 3, Yellow: 1, Red: 1}
}

// pair is the junction of chapter 9's example.
func pair() api.Junction {
	return api.Junction{Phases: []api.Phase{phase(0), phase(0)}, Conflicts: []int{2, 1}}
}

// example is the configuration of the document's example.
func example() api.Config {
	return api.Config{
		Junctions: []api.Junction{pair()},
		Agencies:  []api.Agency{agency(1), agency(1)},
		Period:    4, Cap: 2, Hold: 2, Lockout: 3,
	}
}

func TestBound(t *testing.T) {
	slow := pair()
	slow.Start = 5
	slow.Phases[1].Walk, slow.Phases[1].Clear, slow.Phases[1].MaxGreen = 2, 3, 9
	for name, x := range map[string]struct {
		change func(cfg *api.Config)
		want   int
	}{
		"the example":            {func(cfg *api.Config) {}, 43},
		"Lockout":                {func(cfg *api.Config) { cfg.Lockout = 600 }, 640},
		"Lockout 0":              {func(cfg *api.Config) { cfg.Lockout = 0 }, 40},
		"Cap":                    {func(cfg *api.Config) { cfg.Cap = 3 }, 47},
		"Cap 0":                  {func(cfg *api.Config) { cfg.Cap = 0 }, 35},
		"Period":                 {func(cfg *api.Config) { cfg.Period = 5 }, 45},
		"Hold":                   {func(cfg *api.Config) { cfg.Hold = 3 }, 47},
		"a request less":         {func(cfg *api.Config) { cfg.Agencies[0].Requests = 0 }, 35},
		"no requests":            {func(cfg *api.Config) { cfg.Agencies[0].Requests, cfg.Agencies[1].Requests = 0, 0 }, 27},
		"more requests":          {func(cfg *api.Config) { cfg.Agencies[0].Requests, cfg.Agencies[1].Requests = 4, 4 }, 43},
		"one agency":             {func(cfg *api.Config) { cfg.Agencies = cfg.Agencies[:1] }, 35},
		"a slow junction":        {func(cfg *api.Config) { cfg.Junctions[0] = slow }, 11 + 4*16},
		"a junction of 3 phases": {func(cfg *api.Config) { cfg.Junctions[0].Phases = append(pair().Phases, phase(1)) }, 43},
		"3 phases and requests": {func(cfg *api.Config) {
			cfg.Junctions[0].Phases, cfg.Agencies[0].Requests = append(pair().Phases, phase(1)), 4
		}, 51},
	} {
		cfg := example()
		x.change(&cfg)
		if n := bound.Bound(cfg, 0); n != x.want {
			t.Errorf("%s: %d, not %d", name, n, x.want)
		}
		if n := bound.Longest(cfg); n != x.want {
			t.Errorf("%s: the longest is %d, not %d", name, n, x.want)
		}
	}
	cfg := example()
	cfg.Junctions = []api.Junction{pair(), slow, pair()}
	for k, want := range []int{43, 75, 43} {
		if n := bound.Bound(cfg, k); n != want {
			t.Errorf("Bound(%d) = %d", k, n)
		}
	}
	if n := bound.Longest(cfg); n != 75 {
		t.Errorf("the longest is %d", n)
	}
	for _, k := range []int{-1, 3, math.MinInt, math.MaxInt} {
		bound.Bound(cfg, k)
	}
}

// order is an event: the frame of a message of an agency.
func order(agency, kind int, args ...int) api.Event {
	f, code := message.Frame(api.Message{Kind: kind, Token: token.Bytes(agency, 0, []byte(secret)), Args: args})
	if code != api.OK {
		panic(fmt.Sprint("no message: ", kind, args))
	}
	return api.Event{Kind: api.EvBytes, Session: agency, Bytes: f}
}

func open(s int) api.Event { return api.Event{Kind: api.EvOpen, Session: s} }

func stuck(p int) api.Event { return api.Event{Kind: api.EvStuck, B: p} }

func ticks(n int) []api.Event {
	var l []api.Event
	for range n {
		l = append(l, api.Event{Kind: api.EvTick})
	}
	return l
}

func join(l ...[]api.Event) []api.Event {
	var all []api.Event
	for _, x := range l {
		all = append(all, x...)
	}
	return all
}

// begin opens both sessions, and registers a vehicle of the class 1, and one of the class 3, for each agency.
func begin() []api.Event {
	var l []api.Event
	for a := range 2 {
		l = append(l, open(a), order(a, 4, 1, 1), order(a, 4, 3, 3))
	}
	return l
}

func list(l ...api.Event) []api.Event { return l }

// Phase 0 begins in tick 1. A request for phase 1 that is live from then on is granted at once; one from tick 2 on waits in the ticks 2 to 4, is granted in 5 and 6, and waits from 7 on, as the phase is locked until 10, and 0 has begun again.
func TestStreak(t *testing.T) {
	submit := func(agency, id, vehicle, phase, from, to int) api.Event {
		return order(agency, 6, id, vehicle, 600, 0, phase, from, to)
	}
	for name, x := range map[string]struct {
		script []api.Event
		want   int
	}{
		"nothing":              {nil, 0},
		"no requests":          {join(begin(), ticks(30)), 0},
		"granted at once":      {join(begin(), list(submit(0, 1, 1, 1, 0, 1)), ticks(2)), 0},
		"one wait":             {join(begin(), ticks(1), list(submit(0, 1, 1, 1, 0, 600)), ticks(3)), 3},
		"the wait goes on":     {join(begin(), ticks(1), list(submit(0, 1, 1, 1, 0, 600)), ticks(2)), 2},
		"the wait is over":     {join(begin(), ticks(1), list(submit(0, 1, 1, 1, 0, 600)), ticks(5)), 3},
		"not live yet":         {join(begin(), ticks(1), list(submit(0, 1, 1, 1, 9, 600)), ticks(9)), 0},
		"locked after it":      {join(begin(), ticks(1), list(submit(0, 1, 1, 1, 0, 600)), ticks(13)), 7},
		"a short window":       {join(begin(), ticks(1), list(submit(0, 1, 1, 1, 0, 1)), ticks(9)), 2},
		"an emergency":         {join(begin(), ticks(1), list(submit(0, 1, 3, 1, 0, 600)), ticks(9)), 0},
		"beside an emergency":  {join(begin(), ticks(1), list(submit(0, 1, 1, 1, 0, 600), submit(1, 1, 3, 0, 0, 600)), ticks(20)), 0},
		"an emergency comes":   {join(begin(), ticks(1), list(submit(0, 1, 1, 1, 0, 600)), ticks(2), list(submit(1, 1, 3, 0, 0, 600)), ticks(20)), 2},
		"an emergency goes":    {join(begin(), ticks(1), list(submit(0, 1, 1, 1, 0, 600), submit(1, 1, 3, 0, 0, 8)), ticks(14)), 2},
		"a new request":        {join(begin(), ticks(1), list(submit(0, 1, 1, 1, 0, 600)), ticks(2), list(order(0, 8, 1), submit(0, 1, 1, 1, 0, 600)), ticks(1)), 2},
		"an update":            {join(begin(), ticks(1), list(submit(0, 1, 1, 1, 0, 600)), ticks(2), list(order(0, 7, 1, 0, 500)), ticks(1)), 3},
		"an update with break": {join(begin(), ticks(1), list(submit(0, 1, 1, 1, 0, 600)), ticks(2), list(order(0, 7, 1, 1, 500)), ticks(3)), 2},
		"the first 400":        {join(begin(), ticks(392), list(submit(0, 1, 1, 1, 0, 600)), ticks(3)), 1},
	} {
		if n := bound.Streak(example(), x.script); n != x.want {
			t.Errorf("%s: %d, not %d", name, n, x.want)
		}
		if n := oracle(example(), x.script); n != x.want {
			t.Errorf("%s: the oracle says %d, not %d", name, n, x.want)
		}
	}
}

func TestStreakOfFlashingJunctions(t *testing.T) {
	l := join(begin(), ticks(1), list(order(0, 6, 1, 1, 600, 0, 1, 0, 600)), ticks(1))
	if n := bound.Streak(example(), join(l, list(stuck(0)), ticks(2))); n != 3 {
		t.Errorf("stuck without a conflict: %d", n)
	}
	if n := bound.Streak(example(), join(l, list(stuck(1)), ticks(20))); n != 1 {
		t.Errorf("until it latches: %d", n)
	}
	flash := join(begin(), list(stuck(1)), ticks(1), list(order(0, 6, 1, 1, 600, 0, 1, 0, 600)), ticks(20))
	if n := bound.Streak(example(), flash); n != 0 {
		t.Errorf("while it flashes: %d", n)
	}
}

type state struct{ since, ticks, last int }

// oracle keeps for each leg how long it has waited.
func oracle(cfg api.Config, script []api.Event) int {
	best, legs := 0, map[string]state{}
	b := broker.New(cfg)
	for _, e := range script[:min(400, len(script))] {
		next, _, ticked := broker.Do(b, e)
		if b = next; !ticked {
			continue
		}
		urgent := map[int]bool{}
		for _, d := range b.City.Desks {
			for _, r := range d.Requests {
				for _, l := range r.Legs {
					urgent[l.Junction] = urgent[l.Junction] || l.Since != -1 && r.Class >= 2
				}
			}
		}
		for k, d := range b.City.Desks {
			for _, r := range d.Requests {
				for n, l := range r.Legs {
					v := b.City.Views[l.Junction]
					granted := v.Override && v.Colors[l.Phase] == api.LampGreen
					if l.Since == -1 || granted || v.Flash || urgent[l.Junction] {
						continue
					}
					key := fmt.Sprint(k, r.ID, n)
					s := legs[key]
					if s.since != l.Since || s.last != b.City.Now-1 {
						s = state{since: l.Since}
					}
					s.ticks, s.last = s.ticks+1, b.City.Now
					legs[key] = s
					best = max(best, s.ticks)
				}
			}
		}
	}
	return best
}

func randomConfig(r *rand.Rand) api.Config {
	cfg := api.Config{Period: 1 + r.Intn(5), Cap: r.Intn(4), Hold: 1 + r.Intn(4), Lockout: r.Intn(8)}
	for range 1 + r.Intn(2) {
		n, groups := 1+r.Intn(6), 1+r.Intn(3)
		j := api.Junction{Conflicts: make([]int, n), Start: r.Intn(4)}
		for p := range n {
			x := api.Phase{Ring: r.Intn(2), Group: p * min(n, groups) / n, MinGreen: 1 + r.Intn(4), Yellow: 1 + r.Intn(2), Red: r.Intn(3)}
			x.MaxGreen = x.MinGreen + r.Intn(4)
			j.Phases = append(j.Phases, x)
		}
		for p, a := range j.Phases {
			for q, b := range j.Phases[:p] {
				if a.Ring == b.Ring || a.Group != b.Group || r.Intn(3) == 0 {
					j.Conflicts[p] |= 1 << q
					j.Conflicts[q] |= 1 << p
				}
			}
		}
		cfg.Junctions = append(cfg.Junctions, j)
	}
	for range 2 {
		cfg.Agencies = append(cfg.Agencies, agency(1+r.Intn(4)))
	}
	return cfg
}

// randomScript has requests that come again and again; some are emergencies, some lamps are stuck.
func randomScript(r *rand.Rand, cfg api.Config) []api.Event {
	l := begin()
	for len(l) < 420 {
		a := r.Intn(2)
		j := r.Intn(len(cfg.Junctions))
		switch r.Intn(40) {
		case 0:
			l = append(l, order(a, 6, r.Intn(4), 3, 1+r.Intn(9), j, r.Intn(len(cfg.Junctions[j].Phases)), 0, r.Intn(9)))
		case 1:
			l = append(l, api.Event{Kind: api.EvStuck, A: j, B: r.Intn(6)}, order(a, 11, j))
		case 2:
			l = append(l, order(a, 8, r.Intn(4)))
		case 3:
			l = append(l, order(a, 7, r.Intn(4), r.Intn(2), 100+r.Intn(500)))
		case 4, 5, 6, 7, 8, 9:
			l = append(l, order(a, 6, r.Intn(4), 1, 100+r.Intn(500), j, r.Intn(len(cfg.Junctions[j].Phases)), r.Intn(3), 50+r.Intn(500)))
		default:
			l = append(l, ticks(1+r.Intn(4))...)
		}
	}
	return l
}

// No starvation: a leg waits for less than the longest bound, whatever the others ask for.
func TestNoStarvation(t *testing.T) {
	r := rand.New(rand.NewSource(1))
	waited := 0
	for range 150 {
		cfg := randomConfig(r)
		l := randomScript(r, cfg)
		n := bound.Streak(cfg, l)
		if want := oracle(cfg, l); n != want {
			t.Fatalf("%v: Streak = %d, not %d", cfg, n, want)
		}
		if n >= bound.Longest(cfg) {
			t.Fatalf("%v: %d ticks, and the bound is %d", cfg, n, bound.Longest(cfg))
		}
		waited = max(waited, n)
	}
	if waited < 10 {
		t.Errorf("nobody waits for more than %d ticks", waited)
	}
}
