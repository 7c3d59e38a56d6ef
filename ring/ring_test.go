package ring_test

import (
	"math"
	"math/rand"
	"slices"
	"testing"

	"signalbroker/api"
	"signalbroker/lamp"
	"signalbroker/ring"
)

func phase(ring, group int) api.Phase {
	return api.Phase{Ring: ring, Group: group, MinGreen: 2, MaxGreen: 3, Yellow: 1, Red: 1}
}

// pair is the junction of the document's example.
func pair() api.Junction {
	return api.Junction{Phases: []api.Phase{phase(0, 0), phase(0, 0)}, Conflicts: []int{2, 1}}
}

// quad has two rings and two groups: ring 0 the phases 0, 2 (group 0) and 4 (group 1), ring 1 the phases 1, 3 (group 0) and 5 (group 1). 0 and 3 conflict.
func quad() api.Junction {
	return api.Junction{
		Phases: []api.Phase{phase(0, 0), phase(1, 0), phase(0, 0), phase(1, 0), phase(0, 1), phase(1, 1)},
		Conflicts: []int{
			1<<2 | 1<<3 | 1<<4 | 1<<5,
			1<<3 | 1<<4 | 1<<5,
			1<<0 | 1<<4 | 1<<5,
			1<<0 | 1<<1 | 1<<4 | 1<<5,
			15,
			15,
		},
		Start: 2,
	}
}

// random returns a junction that is valid.
func random(r *rand.Rand) api.Junction {
	n, groups := 1+r.Intn(8), 1+r.Intn(4)
	j := api.Junction{Conflicts: make([]int, n), Start: r.Intn(3)}
	for p := range n {
		x := api.Phase{Ring: r.Intn(2), Group: p * min(n, groups) / n, MinGreen: 1 + r.Intn(3), Yellow: 1 + r.Intn(2), Red: r.Intn(3)}
		if r.Intn(3) == 0 {
			x.Walk, x.Clear = 1+r.Intn(2), 1+r.Intn(2)
		}
		x.MaxGreen = max(x.MinGreen, x.Walk+x.Clear) + r.Intn(4)
		j.Phases = append(j.Phases, x)
	}
	r.Shuffle(n, func(a, b int) { j.Phases[a], j.Phases[b] = j.Phases[b], j.Phases[a] })
	for p, a := range j.Phases {
		for q, b := range j.Phases[:p] {
			if a.Ring == b.Ring || a.Group != b.Group || r.Intn(3) == 0 {
				j.Conflicts[p] |= 1 << q
				j.Conflicts[q] |= 1 << p
			}
		}
	}
	return j
}

func equal(a, b api.Control) bool {
	return slices.Equal(a.Lights, b.Lights) && a.Group == b.Group && slices.Equal(a.Next, b.Next) && a.Wait == b.Wait
}

func clone(c api.Control) api.Control {
	c.Lights, c.Next = slices.Clone(c.Lights), slices.Clone(c.Next)
	return c
}

// lamps writes the lamps of a control as letters.
func lamps(c api.Control) string {
	s := ""
	for _, l := range c.Lights {
		s += string("rgycf"[l.Lamp])
	}
	return s
}

func TestInit(t *testing.T) {
	for _, x := range []struct {
		j    api.Junction
		want api.Control
	}{
		{pair(), api.Control{Lights: make([]api.Light, 2), Next: []int{0, -1}}},
		{quad(), api.Control{Lights: make([]api.Light, 6), Next: []int{0, 1}, Wait: 2}},
		{api.Junction{Phases: []api.Phase{phase(1, 1), phase(1, 0)}, Conflicts: []int{2, 1}, Start: 60}, api.Control{Lights: make([]api.Light, 2), Next: []int{-1, 1}, Wait: 60}},
	} {
		c := ring.Init(x.j)
		if !equal(c, x.want) || !ring.Valid(x.j, c) {
			t.Errorf("Init(%v) = %v", x.j, c)
		}
	}
}

func TestSet(t *testing.T) {
	c := api.Control{}
	if ring.Set(c) != 0 {
		t.Error("a set without lights")
	}
	for _, l := range []int{api.LampRed, api.LampGreen, api.LampYellow, api.LampClear, api.LampFlash, api.LampRed, -1, api.LampRed} {
		c.Lights = append(c.Lights, api.Light{Lamp: l})
	}
	if s := ring.Set(c); s != 2+4+8+16+64 {
		t.Errorf("Set = %d", s)
	}
}

func TestValid(t *testing.T) {
	light := func(p, l, ticks int) func(c *api.Control) {
		return func(c *api.Control) { c.Lights[p] = api.Light{Lamp: l, Ticks: ticks} }
	}
	for name, x := range map[string]struct {
		change func(c *api.Control)
		want   bool
	}{
		"as it is":               {func(c *api.Control) {}, true},
		"a light less":           {func(c *api.Control) { c.Lights = c.Lights[:5] }, false},
		"a light more":           {func(c *api.Control) { c.Lights = append(c.Lights, api.Light{}) }, false},
		"no lights":              {func(c *api.Control) { c.Lights = nil }, false},
		"a light that flashes":   {light(0, api.LampFlash, 0), false},
		"red with ticks":         {light(5, api.LampRed, 1), false},
		"green":                  {light(0, api.LampGreen, 100), true},
		"green with less ticks":  {light(0, api.LampGreen, -1), false},
		"yellow too long":        {light(0, api.LampYellow, 1), false},
		"clear too long":         {light(0, api.LampClear, 1), false},
		"two greens":             {func(c *api.Control) { light(0, 1, 0)(c); light(1, 1, 5)(c) }, true},
		"two greens in conflict": {func(c *api.Control) { light(0, 1, 0)(c); light(3, 1, 5)(c) }, false},
		"green and clear":        {func(c *api.Control) { light(0, 1, 0)(c); light(2, 3, 0)(c) }, false},
		"clear and clear":        {func(c *api.Control) { light(0, 3, 0)(c); light(5, 3, 0)(c) }, false},
		"clear alone":            {light(4, api.LampClear, 0), true},
		"Group -1":               {func(c *api.Control) { c.Group, c.Next = -1, []int{-1, -1} }, false},
		"Group 1":                {func(c *api.Control) { c.Group, c.Next = 1, []int{4, 5} }, true},
		"Group 1 with old Next":  {func(c *api.Control) { c.Group = 1 }, false},
		"Group 2":                {func(c *api.Control) { c.Group, c.Next = 2, []int{-1, -1} }, false},
		"no Next":                {func(c *api.Control) { c.Next = nil }, false},
		"a Next less":            {func(c *api.Control) { c.Next = c.Next[:1] }, false},
		"a Next more":            {func(c *api.Control) { c.Next = append(c.Next, -1) }, false},
		"Next -1":                {func(c *api.Control) { c.Next = []int{-1, -1} }, true},
		"Next -2":                {func(c *api.Control) { c.Next[0] = -2 }, false},
		"Next is later":          {func(c *api.Control) { c.Next = []int{2, 3} }, true},
		"Next of another ring":   {func(c *api.Control) { c.Next = []int{1, -1} }, false},
		"Next of another group":  {func(c *api.Control) { c.Next = []int{4, -1} }, false},
		"Next is no phase":       {func(c *api.Control) { c.Next = []int{-1, 6} }, false},
		"Wait 2":                 {func(c *api.Control) { c.Wait = 2 }, true},
		"Wait 3":                 {func(c *api.Control) { c.Wait = 3 }, false},
		"Wait -1":                {func(c *api.Control) { c.Wait = -1 }, false},
		"Wait with green":        {func(c *api.Control) { c.Wait = 1; light(0, 1, 0)(c) }, false},
		"Wait with clear":        {func(c *api.Control) { c.Wait = 1; light(0, 3, 0)(c) }, false},
	} {
		c := ring.Init(quad())
		c.Wait = 0
		x.change(&c)
		if ring.Valid(quad(), c) != x.want {
			t.Errorf("%s: it is not %v", name, x.want)
		}
	}
}

// run makes steps and returns the lamps after each.
func run(j api.Junction, c api.Control, targets ...int) []string {
	var l []string
	for _, target := range targets {
		c = ring.Step(j, c, target)
		l = append(l, lamps(c))
	}
	return l
}

func expectRun(t *testing.T, name string, j api.Junction, c api.Control, targets []int, want ...string) {
	t.Helper()
	if got := run(j, c, targets...); !slices.Equal(got, want) {
		t.Errorf("%s: %v, not %v", name, got, want)
	}
}

func TestExample(t *testing.T) {
	for _, none := range []int{-1, 2, 8, math.MinInt, math.MaxInt} {
		expectRun(t, "without a target", pair(), ring.Init(pair()), slices.Repeat([]int{none}, 11),
			"gr", "gr", "gr", "yr", "cr", "rg", "rg", "rg", "ry", "rc", "gr")
	}
}

func TestTargets(t *testing.T) {
	expectRun(t, "a target that is first", pair(), ring.Init(pair()), []int{0, 0, 0, 0, 0, 0}, "gr", "gr", "gr", "gr", "gr", "gr")
	expectRun(t, "a target that is second", pair(), ring.Init(pair()), []int{1, 1, 1}, "rg", "rg", "rg")
	expectRun(t, "a target that comes", pair(), ring.Init(pair()), []int{-1, 1, 1, 1, 1, 1}, "gr", "gr", "yr", "cr", "rg", "rg")
	expectRun(t, "a target that goes", pair(), ring.Init(pair()), []int{0, 0, 0, 0, -1, -1, -1}, "gr", "gr", "gr", "gr", "yr", "cr", "rg")
	expectRun(t, "a target that returns", pair(), ring.Init(pair()), []int{0, 1, 1, 0, 0, 0}, "gr", "gr", "yr", "cr", "gr", "gr")
	expectRun(t, "the wait", quad(), ring.Init(quad()), []int{-1, 2, -1, -1}, "rrrrrr", "rrrrrr", "ggrrrr", "ggrrrr")
	expectRun(t, "a target in the other group", quad(), ring.Init(quad()), []int{5, 5, 5, 5}, "rrrrrr", "rrrrrr", "rrrrgg", "rrrrgg")
	expectRun(t, "a target with a conflict in the other ring", quad(), ring.Init(quad()), []int{3, 3, 3, 3, 3, 3, 3, 3}, "rrrrrr", "rrrrrr", "rrggrr", "rrggrr", "rrggrr", "rrygrr", "rrcgrr", "rrggrr")
	expectRun(t, "no target, all groups", quad(), ring.Init(quad()), slices.Repeat([]int{-1}, 20),
		"rrrrrr", "rrrrrr", "ggrrrr", "ggrrrr", "ggrrrr", "yyrrrr", "ccrrrr",
		"rrggrr", "rrggrr", "rrggrr", "rryyrr", "rrccrr",
		"rrrrgg", "rrrrgg", "rrrrgg", "rrrryy", "rrrrcc",
		"ggrrrr", "ggrrrr", "ggrrrr")
}

// The other ring begins the phase from Next on that has no conflict with the target, and goes back to the first one after the last.
func TestOtherRing(t *testing.T) {
	j := api.Junction{
		Phases:    []api.Phase{phase(0, 0), phase(1, 0), phase(1, 0), phase(1, 0)},
		Conflicts: []int{1 << 2, 1<<2 | 1<<3, 1<<0 | 1<<1 | 1<<3, 1<<1 | 1<<2},
	}
	red := ring.Init(j)
	for _, x := range []struct{ next, want int }{{1, 1}, {2, 3}, {3, 3}, {-1, 1}} {
		c := clone(red)
		c.Next[1] = x.next
		c = ring.Step(j, c, 0)
		for p := 1; p < 4; p++ {
			if (c.Lights[p].Lamp == api.LampGreen) != (p == x.want) {
				t.Errorf("Next %d: %s", x.next, lamps(c))
			}
		}
	}
	j.Conflicts = []int{14, 13, 11, 7}
	if c := ring.Step(j, ring.Init(j), 0); lamps(c) != "grrr" || !slices.Equal(c.Next, []int{-1, 1}) {
		t.Errorf("without a candidate: %v", c)
	}
}

func TestGroupsAndNext(t *testing.T) {
	c := ring.Init(quad())
	c.Wait = 0
	for _, x := range []struct {
		target, group int
		next          []int
	}{
		{0, 0, []int{2, 3}},
		{2, 0, []int{-1, 3}},
		{3, 0, []int{-1, -1}},
		{4, 1, []int{-1, -1}},
		{-1, 0, []int{2, 3}},
	} {
		s := ring.Step(quad(), c, x.target)
		if s.Group != x.group || !slices.Equal(s.Next, x.next) {
			t.Errorf("target %d: group %d, next %v", x.target, s.Group, s.Next)
		}
	}
	j := quad()
	j.Phases[4].Ring, j.Phases[5].Ring = 1, 1
	j.Conflicts[4] |= 1 << 5
	j.Conflicts[5] |= 1 << 4
	s := ring.Step(j, c, 5)
	if s.Group != 1 || !slices.Equal(s.Next, []int{-1, -1}) || lamps(s) != "rrrrrg" {
		t.Errorf("target 5: %v", s)
	}
	s = ring.Step(j, c, 4)
	if s.Group != 1 || !slices.Equal(s.Next, []int{-1, 5}) || lamps(s) != "rrrrgr" {
		t.Errorf("target 4: %v", s)
	}
}

// The oracle follows the document word by word.

func enter(j api.Junction, c *api.Control, g int) {
	c.Group, c.Next = g, []int{-1, -1}
	for p := len(j.Phases) - 1; p >= 0; p-- {
		if j.Phases[p].Group == g {
			c.Next[j.Phases[p].Ring] = p
		}
	}
}

func conflict(j api.Junction, p, q int) bool { return j.Conflicts[p]&(1<<q) != 0 }

func beginIfItCan(j api.Junction, c *api.Control, q int) {
	for p, l := range c.Lights {
		if conflict(j, p, q) && l.Lamp != api.LampRed {
			return
		}
	}
	c.Lights[q] = api.Light{Lamp: api.LampGreen}
	if c.Group != j.Phases[q].Group {
		enter(j, c, j.Phases[q].Group)
	}
	r := j.Phases[q].Ring
	c.Next[r] = -1
	for p := len(j.Phases) - 1; p > q; p-- {
		if j.Phases[p].Group == c.Group && j.Phases[p].Ring == r {
			c.Next[r] = p
		}
	}
}

func choice(j api.Junction, c *api.Control, r, target int) int {
	if j.Phases[target].Ring == r {
		return target
	}
	var can []int
	for p, x := range j.Phases {
		if x.Ring == r && !conflict(j, p, target) {
			can = append(can, p)
		}
	}
	if len(can) == 0 {
		return -1
	}
	k := slices.IndexFunc(can, func(p int) bool { return p >= c.Next[r] })
	if c.Next[r] == -1 || k < 0 {
		k = 0
	}
	return can[k]
}

func oracle(j api.Junction, c api.Control, target int) api.Control {
	c = clone(c)
	if c.Wait > 0 {
		c.Wait--
		return c
	}
	some := target >= 0 && target < len(j.Phases)
	allRed := true
	for p, l := range c.Lights {
		leave := l.Ticks+1 >= j.Phases[p].MaxGreen
		if some {
			leave = p != target && (leave || conflict(j, p, target))
		}
		c.Lights[p] = lamp.Step(j.Phases[p], l, leave)
		allRed = allRed && c.Lights[p].Lamp == api.LampRed
	}
	if !some && allRed && c.Next[0] == -1 && c.Next[1] == -1 {
		g, last := c.Group+1, 0
		for _, x := range j.Phases {
			last = max(last, x.Group)
		}
		if g > last {
			g = 0
		}
		enter(j, &c, g)
	}
	for r := range 2 {
		busy := false
		for p, x := range j.Phases {
			busy = busy || x.Ring == r && c.Lights[p].Lamp != api.LampRed
		}
		if busy {
			continue
		}
		if some {
			if q := choice(j, &c, r, target); q >= 0 {
				beginIfItCan(j, &c, q)
			}
		} else if c.Next[r] != -1 {
			beginIfItCan(j, &c, c.Next[r])
		}
	}
	return c
}

func TestRandomTargets(t *testing.T) {
	r := rand.New(rand.NewSource(1))
	for range 600 {
		j := random(r)
		c, target := ring.Init(j), -1
		for range 120 {
			if r.Intn(6) == 0 {
				target = r.Intn(len(j.Phases)+2) - 1
			}
			kept := clone(c)
			next := ring.Step(j, c, target)
			if !equal(c, kept) {
				t.Fatal("Step changes its argument")
			}
			if want := oracle(j, c, target); !equal(next, want) {
				t.Fatalf("%v: Step(%v, %d) = %v, not %v", j, c, target, next, want)
			}
			if !ring.Valid(j, next) {
				t.Fatalf("%v: %v is not valid", j, next)
			}
			c = next
		}
	}
}

// Valid controls that no run reaches are stepped as the document says, too.
func TestOtherControls(t *testing.T) {
	r := rand.New(rand.NewSource(2))
	checked := 0
	for range 60000 {
		j := random(r)
		c := ring.Init(j)
		c.Wait = 0
		for p := range c.Lights {
			if r.Intn(3) == 0 {
				c.Lights[p] = api.Light{Lamp: r.Intn(4), Ticks: r.Intn(3)}
			}
		}
		enter(j, &c, j.Phases[r.Intn(len(j.Phases))].Group)
		for k := range c.Next {
			if p := r.Intn(len(j.Phases)); r.Intn(2) == 0 && j.Phases[p].Ring == k && j.Phases[p].Group == c.Group {
				c.Next[k] = p
			} else if r.Intn(3) == 0 {
				c.Next[k] = -1
			}
		}
		if !ring.Valid(j, c) {
			continue
		}
		checked++
		target := r.Intn(len(j.Phases)+2) - 1
		next := ring.Step(j, c, target)
		if want := oracle(j, c, target); !equal(next, want) || !ring.Valid(j, next) {
			t.Fatalf("%v: Step(%v, %d) = %v, not %v", j, c, target, next, want)
		}
	}
	if checked < 1000 {
		t.Errorf("only %d controls were checked", checked)
	}
}

// Without a target every phase becomes green again and again.
func TestEveryPhaseIsServed(t *testing.T) {
	r := rand.New(rand.NewSource(3))
	for range 200 {
		j := random(r)
		c := ring.Init(j)
		for round := range 3 {
			served := 0
			for range 400 {
				c = ring.Step(j, c, -1)
				for p, l := range c.Lights {
					if l == (api.Light{Lamp: api.LampGreen}) {
						served |= 1 << p
					}
				}
			}
			if served != 1<<len(j.Phases)-1 {
				t.Fatalf("%v: round %d serves %b", j, round, served)
			}
		}
	}
}
