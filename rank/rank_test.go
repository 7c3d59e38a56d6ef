package rank_test

import (
	"math"
	"math/rand"
	"testing"

	"signalbroker/api"
	"signalbroker/rank"
)

func claim(agency, id, phase, class, since int) api.Claim {
	return api.Claim{Agency: agency, ID: id, Phase: phase, Class: class, Since: since}
}

func service(ended ...int) api.Service { return api.Service{Phase: -1, Ended: ended} }

func config(period, most, lockout int) api.Config {
	return api.Config{Period: period, Cap: most, Hold: 1, Lockout: lockout}
}

func TestEmergency(t *testing.T) {
	for class, want := range map[int]bool{0: false, 1: false, 2: true, 3: true} {
		if rank.Emergency(claim(1, 2, 0, class, 5)) != want {
			t.Errorf("class %d is not %v", class, want)
		}
	}
}

func TestStart(t *testing.T) {
	s := service(-1, 0, 7, 20)
	for _, x := range []struct{ phase, since, want int }{
		{0, 0, 0}, {0, 9, 9}, {1, 0, 0}, {1, 3, 3}, {2, 6, 7}, {2, 7, 7}, {2, 8, 8}, {3, 8, 20},
	} {
		if n := rank.Start(s, claim(0, 0, x.phase, 1, x.since)); n != x.want {
			t.Errorf("Start of %v = %d", x, n)
		}
	}
}

func TestLevel(t *testing.T) {
	for _, x := range []struct{ period, most, ended, class, since, now, want int }{
		{10, 5, -1, 1, 0, 0, 1},
		{10, 5, -1, 1, 0, 9, 1},
		{10, 5, -1, 1, 0, 10, 2},
		{10, 5, -1, 1, 0, 19, 2},
		{10, 5, -1, 1, 0, 39, 4},
		{10, 5, -1, 1, 0, 40, 5},
		{10, 5, -1, 1, 0, 50, 5},
		{10, 5, -1, 1, 0, api.MaxTick, 5},
		{10, 5, -1, 0, 4, 13, 0},
		{10, 5, -1, 0, 4, 14, 1},
		{10, 5, 8, 0, 4, 14, 0},
		{10, 5, 8, 0, 4, 18, 1},
		{1, 100, -1, 1, 7, 60, 54},
		{600, 100, -1, 0, 0, 1199, 1},
		{3, 0, -1, 0, 0, 100, 0},
		{3, 0, -1, 3, 0, 0, 0},
		{3, 2, -1, 3, 0, 0, 2},
		{3, 9, -1, 3, 0, 7, 5},
		{10, 5, 8, 1, 0, 8, 1},
	} {
		if n := rank.Level(config(x.period, x.most, 0), service(x.ended), claim(0, 0, 0, x.class, x.since), x.now); n != x.want {
			t.Errorf("Level of %v = %d", x, n)
		}
	}
}

func TestLocked(t *testing.T) {
	for _, x := range []struct {
		lockout, ended, class, now int
		want                       bool
	}{
		{5, -1, 0, 0, false},
		{5, -1, 0, 3, false},
		{600, -1, 1, 30, false},
		{5, 10, 0, 10, true},
		{5, 10, 0, 15, true},
		{5, 10, 1, 15, true},
		{5, 10, 0, 16, false},
		{5, 10, 1, 16, false},
		{5, 10, 2, 12, false},
		{5, 10, 3, 10, false},
		{0, 10, 0, 10, true},
		{0, 10, 0, 11, false},
		{5, 0, 0, 5, true},
		{5, 0, 0, 6, false},
		{5, 10, 0, 9, true},
	} {
		if rank.Locked(config(3, 3, x.lockout), service(2, x.ended), claim(0, 0, 1, x.class, 0), x.now) != x.want {
			t.Errorf("Locked of %v", x)
		}
	}
}

func TestLess(t *testing.T) {
	cfg := config(10, 5, 0)
	s := service(-1, 30, 30)
	const now = 40
	for name, x := range map[string]struct{ a, b api.Claim }{
		"an emergency":                  {claim(1, 9, 0, 2, 39), claim(0, 0, 0, 1, 0)},
		"a greater emergency":           {claim(1, 9, 0, 3, 39), claim(0, 0, 0, 2, 0)},
		"an earlier emergency":          {claim(1, 9, 0, 3, 38), claim(0, 0, 0, 3, 39)},
		"emergencies have no level":     {claim(1, 9, 0, 2, 20), claim(0, 0, 0, 2, 21)},
		"an emergency waits since then": {claim(1, 9, 0, 2, 29), claim(0, 0, 1, 2, 0)},
		"a greater level":               {claim(1, 9, 0, 0, 10), claim(0, 0, 0, 1, 35)},
		"a greater class":               {claim(1, 9, 0, 1, 39), claim(0, 0, 0, 0, 38)},
		"the same level, earlier":       {claim(1, 9, 0, 0, 20), claim(0, 0, 0, 1, 21)},
		"the level counts the end":      {claim(1, 9, 0, 0, 15), claim(0, 0, 1, 0, 0)},
		"the cap":                       {claim(1, 9, 0, 0, 0), claim(0, 0, 0, 1, 1)},
		"the start counts the end":      {claim(1, 9, 0, 0, 29), claim(0, 0, 1, 0, 5)},
		"the lesser agency":             {claim(1, 9, 0, 0, 29), claim(2, 3, 0, 0, 29)},
		"the lesser ID":                 {claim(1, 3, 0, 0, 29), claim(1, 4, 0, 0, 29)},
		"agencies of emergencies":       {claim(1, 9, 0, 3, 29), claim(2, 3, 0, 3, 29)},
		"IDs of emergencies":            {claim(1, 3, 0, 3, 29), claim(1, 4, 0, 3, 29)},
		"the phase does not matter":     {claim(1, 3, 2, 0, 35), claim(1, 4, 1, 0, 35)},
	} {
		if !rank.Less(cfg, s, now, x.a, x.b) {
			t.Errorf("%s: a is not ahead of b", name)
		}
		if rank.Less(cfg, s, now, x.b, x.a) {
			t.Errorf("%s: b is ahead of a", name)
		}
	}
	c := claim(1, 2, 0, 1, 5)
	if rank.Less(cfg, s, now, c, c) {
		t.Error("a claim is ahead of itself")
	}
	other := c
	other.Phase = 1
	other.Since, c.Since = 35, 35
	if rank.Less(cfg, s, now, c, other) || rank.Less(cfg, s, now, other, c) {
		t.Error("one of two claims with the same agency and ID is ahead")
	}
}

// random returns a service, claims and a time.
func random(r *rand.Rand) (api.Config, api.Service, []api.Claim, int) {
	cfg := config(1+r.Intn(4), r.Intn(5), r.Intn(5))
	now := r.Intn(12)
	s := service()
	for range 3 {
		s.Ended = append(s.Ended, r.Intn(now+2)-1)
	}
	var l []api.Claim
	for range r.Intn(7) {
		l = append(l, claim(r.Intn(3), r.Intn(3), r.Intn(3), []int{0, 0, 1, 1, 2, 3}[r.Intn(6)], r.Intn(now+1)))
	}
	return cfg, s, l, now
}

// key lists what decides, the greatest first.
func key(cfg api.Config, s api.Service, now int, c api.Claim) [6]int {
	start := max(c.Since, s.Ended[c.Phase])
	k := [6]int{0, 0, 0, -start, -c.Agency, -c.ID}
	if c.Class >= api.Police {
		k[0], k[1] = 1, c.Class
	} else {
		k[2] = min(cfg.Cap, c.Class+(now-start)/cfg.Period)
	}
	return k
}

func ahead(a, b [6]int) bool {
	for k := range a {
		if a[k] != b[k] {
			return a[k] > b[k]
		}
	}
	return false
}

func TestLessOfRandomClaims(t *testing.T) {
	r := rand.New(rand.NewSource(1))
	for range 5000 {
		cfg, s, l, now := random(r)
		for _, a := range l {
			for _, b := range l {
				want := ahead(key(cfg, s, now, a), key(cfg, s, now, b))
				if rank.Less(cfg, s, now, a, b) != want {
					t.Fatalf("%v, %v at %d: Less(%v, %v) is not %v", cfg, s, now, a, b, want)
				}
			}
		}
	}
}

func TestBest(t *testing.T) {
	r := rand.New(rand.NewSource(2))
	for range 20000 {
		cfg, s, l, now := random(r)
		want := -1
		for k, c := range l {
			locked := c.Class < 2 && s.Ended[c.Phase] != -1 && now-s.Ended[c.Phase] <= cfg.Lockout
			if !locked && (want == -1 || ahead(key(cfg, s, now, c), key(cfg, s, now, l[want]))) {
				want = k
			}
		}
		if got := rank.Best(cfg, s, now, l); got != want {
			t.Fatalf("%v, %v at %d: Best(%v) = %d, not %d", cfg, s, now, l, got, want)
		}
	}
	if rank.Best(config(1, 1, 1), service(-1), 5, nil) != -1 {
		t.Error("the best of no claims")
	}
}

func TestBestOfEqualClaims(t *testing.T) {
	c := claim(1, 1, 0, 1, 3)
	locked := claim(0, 0, 1, 1, 3)
	l := []api.Claim{locked, c, c, locked, c}
	if k := rank.Best(config(5, 5, 9), service(-1, 4), 5, l); k != 1 {
		t.Errorf("Best = %d", k)
	}
	if k := rank.Best(config(5, 5, 9), service(4, 4), 5, l); k != -1 {
		t.Errorf("Best of locked ones = %d", k)
	}
}

func TestNoPanic(t *testing.T) {
	for _, phase := range []int{-1, 3, math.MaxInt, math.MinInt} {
		for _, period := range []int{0, -1, math.MinInt} {
			c := claim(0, 0, phase, 1, 3)
			rank.Best(config(period, 1, 1), service(1, 2), 5, []api.Claim{c, c})
		}
	}
}
