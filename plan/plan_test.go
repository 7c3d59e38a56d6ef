package plan_test

import (
	"math"
	"slices"
	"testing"

	"signalbroker/api"
	"signalbroker/plan"
)

// crossing returns a valid junction: ring 0 with the phases 0, 1 and 4, ring 1 with 2, 3 and 5; 4 and 5 are in group 1.
func crossing() api.Junction {
	p := func(ring, group int) api.Phase {
		return api.Phase{Ring: ring, Group: group, MinGreen: 2, MaxGreen: 10, Yellow: 2, Red: 1, Walk: 3, Clear: 2}
	}
	return api.Junction{
		Phases: []api.Phase{p(0, 0), p(0, 0), p(1, 0), p(1, 0), p(0, 1), p(1, 1)},
		Conflicts: []int{
			1<<1 | 1<<4 | 1<<5,
			1<<0 | 1<<4 | 1<<5,
			1<<3 | 1<<4 | 1<<5,
			1<<2 | 1<<4 | 1<<5,
			1<<0 | 1<<1 | 1<<2 | 1<<3,
			1<<0 | 1<<1 | 1<<2 | 1<<3,
		},
		Start: 3,
	}
}

// single returns a junction of one phase.
func single(p api.Phase) api.Junction {
	return api.Junction{Phases: []api.Phase{p}, Conflicts: []int{0}}
}

func agency() api.Agency {
	return api.Agency{Secret: []byte("12345678"), Rights: 63, Class: 3, Limits: []int{1, 2, 3, 8}, Requests: 2, Sessions: 1, Rate: 1, Burst: 5}
}

func config() api.Config {
	return api.Config{Junctions: []api.Junction{crossing()}, Agencies: []api.Agency{agency()}, Period: 10, Cap: 5, Hold: 5, Lockout: 10}
}

func TestPhaseNumbers(t *testing.T) {
	base := api.Phase{MinGreen: 2, MaxGreen: 50, Yellow: 2, Red: 1, Walk: 3, Clear: 2}
	if !plan.Junction(single(base)) {
		t.Fatal("the base is not valid")
	}
	for name, x := range map[string]struct {
		field       func(p *api.Phase) *int
		least, most int
	}{
		"Ring":     {func(p *api.Phase) *int { return &p.Ring }, 0, 1},
		"MinGreen": {func(p *api.Phase) *int { return &p.MinGreen }, 1, 50},
		"MaxGreen": {func(p *api.Phase) *int { return &p.MaxGreen }, 5, 60},
		"Yellow":   {func(p *api.Phase) *int { return &p.Yellow }, 1, 60},
		"Red":      {func(p *api.Phase) *int { return &p.Red }, 0, 60},
		"Walk":     {func(p *api.Phase) *int { return &p.Walk }, 1, 48},
		"Clear":    {func(p *api.Phase) *int { return &p.Clear }, 1, 47},
		"Group":    {func(p *api.Phase) *int { return &p.Group }, 0, 0},
	} {
		for _, n := range []int{math.MinInt, -1, x.least - 1, x.least, (x.least + x.most) / 2, x.most, x.most + 1, 61, math.MaxInt} {
			p := base
			*x.field(&p) = n
			if want := n >= x.least && n <= x.most; plan.Junction(single(p)) != want {
				t.Errorf("with the %s %d it is not %v", name, n, want)
			}
		}
	}
}

func TestPhaseCombinations(t *testing.T) {
	for _, x := range []struct {
		p    api.Phase
		want bool
	}{
		{api.Phase{MinGreen: 1, MaxGreen: 1, Yellow: 1}, true},
		{api.Phase{MinGreen: 60, MaxGreen: 60, Yellow: 60, Red: 60, Walk: 30, Clear: 30}, true},
		{api.Phase{MinGreen: 0, MaxGreen: 0, Yellow: 1}, false},
		{api.Phase{MinGreen: 0, MaxGreen: 1, Yellow: 1}, false},
		{api.Phase{MinGreen: 3, MaxGreen: 2, Yellow: 1}, false},
		{api.Phase{MinGreen: 1, MaxGreen: 1, Yellow: 0}, false},
		{api.Phase{MinGreen: 1, MaxGreen: 2, Yellow: 1, Walk: 1, Clear: 1}, true},
		{api.Phase{MinGreen: 1, MaxGreen: 2, Yellow: 1, Walk: 2, Clear: 1}, false},
		{api.Phase{MinGreen: 1, MaxGreen: 2, Yellow: 1, Walk: 1, Clear: 2}, false},
		{api.Phase{MinGreen: 1, MaxGreen: 2, Yellow: 1, Walk: 1, Clear: 0}, false},
		{api.Phase{MinGreen: 1, MaxGreen: 2, Yellow: 1, Walk: 0, Clear: 1}, false},
		{api.Phase{MinGreen: 1, MaxGreen: 2, Yellow: 1, Walk: -1, Clear: 1}, false},
		{api.Phase{MinGreen: 1, MaxGreen: 2, Yellow: 1, Walk: 3, Clear: -1}, false},
		{api.Phase{MinGreen: 1, MaxGreen: 60, Yellow: 1, Walk: math.MaxInt, Clear: math.MaxInt}, false},
	} {
		if plan.Junction(single(x.p)) != x.want {
			t.Errorf("%v is not %v", x.p, x.want)
		}
	}
}

func TestJunction(t *testing.T) {
	drop := func(j *api.Junction, p, q int) {
		j.Conflicts[p] &^= 1 << q
		j.Conflicts[q] &^= 1 << p
	}
	for name, x := range map[string]struct {
		change func(j *api.Junction)
		want   bool
	}{
		"as it is":                        {func(j *api.Junction) {}, true},
		"no phases":                       {func(j *api.Junction) { *j = api.Junction{} }, false},
		"a row more":                      {func(j *api.Junction) { j.Conflicts = append(j.Conflicts, 0) }, false},
		"a row less":                      {func(j *api.Junction) { *j = single(j.Phases[0]); j.Conflicts = nil }, false},
		"a phase more":                    {func(j *api.Junction) { j.Phases = append(j.Phases, j.Phases[0]) }, false},
		"a conflict of one side":          {func(j *api.Junction) { j.Conflicts[0] |= 1 << 2 }, false},
		"a conflict with itself":          {func(j *api.Junction) { j.Conflicts[0] |= 1 }, false},
		"a conflict more":                 {func(j *api.Junction) { j.Conflicts[0] |= 1 << 2; j.Conflicts[2] |= 1 }, true},
		"Start -1":                        {func(j *api.Junction) { j.Start = -1 }, false},
		"Start 0":                         {func(j *api.Junction) { j.Start = 0 }, true},
		"Start 60":                        {func(j *api.Junction) { j.Start = 60 }, true},
		"Start 61":                        {func(j *api.Junction) { j.Start = 61 }, false},
		"no conflict in ring 0":           {func(j *api.Junction) { drop(j, 0, 1) }, false},
		"no conflict in ring 1":           {func(j *api.Junction) { drop(j, 2, 3) }, false},
		"no conflict in a ring of groups": {func(j *api.Junction) { drop(j, 0, 4) }, false},
		"no conflict of groups":           {func(j *api.Junction) { drop(j, 0, 5) }, false},
		"no conflict of the last groups":  {func(j *api.Junction) { drop(j, 3, 4) }, false},
		"no group 1":                      {func(j *api.Junction) { j.Phases[4].Group, j.Phases[5].Group = 2, 2 }, false},
		"no group 0":                      {func(j *api.Junction) { *j = single(j.Phases[0]); j.Phases[0].Group = 1 }, false},
		"three groups":                    {func(j *api.Junction) { j.Phases[5].Group = 2; j.Conflicts[4] |= 1 << 5; j.Conflicts[5] |= 1 << 4 }, true},
		"three groups without conflict":   {func(j *api.Junction) { j.Phases[5].Group = 2 }, false},
		"the last phase is not valid":     {func(j *api.Junction) { j.Phases[5].Yellow = 0 }, false},
		"Ring 2":                          {func(j *api.Junction) { j.Phases[5].Ring = 2 }, false},
		"Ring -1":                         {func(j *api.Junction) { j.Phases[5].Ring = -1 }, false},
		"Group -1":                        {func(j *api.Junction) { j.Phases[5].Group = -1 }, false},
	} {
		j := crossing()
		x.change(&j)
		if plan.Junction(j) != x.want {
			t.Errorf("%s: it is not %v", name, x.want)
		}
	}
}

// full returns a junction with n phases that all conflict, in groups of their own as far as groups go.
func full(n, groups int) api.Junction {
	var j api.Junction
	for p := range n {
		j.Phases = append(j.Phases, api.Phase{Group: p % groups, MinGreen: 1, MaxGreen: 1, Yellow: 1})
		j.Conflicts = append(j.Conflicts, 1<<n-1-1<<p)
	}
	return j
}

func TestNumbersOfPhasesAndGroups(t *testing.T) {
	for n := 1; n <= 10; n++ {
		for groups := 1; groups <= 6; groups++ {
			want := n <= 8 && min(n, groups) <= 4
			if plan.Junction(full(n, groups)) != want {
				t.Errorf("%d phases in %d groups: it is not %v", n, groups, want)
			}
		}
	}
}

func TestAgency(t *testing.T) {
	for name, x := range map[string]struct {
		change func(a *api.Agency)
		want   bool
	}{
		"as it is":         {func(a *api.Agency) {}, true},
		"no secret":        {func(a *api.Agency) { a.Secret = nil }, false},
		"a short secret":   {func(a *api.Agency) { a.Secret = a.Secret[:7] }, false},
		"a long secret":    {func(a *api.Agency) { a.Secret = append(a.Secret, 0) }, false},
		"Rights -1":        {func(a *api.Agency) { a.Rights = -1 }, false},
		"Rights 0":         {func(a *api.Agency) { a.Rights = 0 }, true},
		"Rights 64":        {func(a *api.Agency) { a.Rights = 64 }, false},
		"Class -1":         {func(a *api.Agency) { a.Class = -1 }, false},
		"Class 0":          {func(a *api.Agency) { a.Class = 0 }, true},
		"Class 4":          {func(a *api.Agency) { a.Class = 4 }, false},
		"no limits":        {func(a *api.Agency) { a.Limits = nil }, false},
		"three limits":     {func(a *api.Agency) { a.Limits = a.Limits[:3] }, false},
		"five limits":      {func(a *api.Agency) { a.Limits = append(a.Limits, 0) }, false},
		"a limit of 0":     {func(a *api.Agency) { a.Limits = []int{0, 0, 0, 0} }, true},
		"a limit of -1":    {func(a *api.Agency) { a.Limits[0] = -1 }, false},
		"a limit of 8":     {func(a *api.Agency) { a.Limits[1] = 8 }, true},
		"a limit of 9":     {func(a *api.Agency) { a.Limits[3] = 9 }, false},
		"Requests -1":      {func(a *api.Agency) { a.Requests = -1 }, false},
		"Requests 0":       {func(a *api.Agency) { a.Requests = 0 }, true},
		"Requests 4":       {func(a *api.Agency) { a.Requests = 4 }, true},
		"Requests 5":       {func(a *api.Agency) { a.Requests = 5 }, false},
		"Sessions 0":       {func(a *api.Agency) { a.Sessions = 0 }, false},
		"Sessions -1":      {func(a *api.Agency) { a.Sessions = -1 }, false},
		"Sessions 2":       {func(a *api.Agency) { a.Sessions = 2 }, true},
		"Sessions 3":       {func(a *api.Agency) { a.Sessions = 3 }, false},
		"Burst 1000":       {func(a *api.Agency) { a.Burst = 1000 }, true},
		"Burst 1001":       {func(a *api.Agency) { a.Burst = 1001 }, false},
		"Burst 0":          {func(a *api.Agency) { a.Burst = 0 }, false},
		"Burst and Rate 0": {func(a *api.Agency) { a.Burst, a.Rate = 0, 0 }, true},
		"Burst -1":         {func(a *api.Agency) { a.Burst, a.Rate = -1, -1 }, false},
		"Rate -1":          {func(a *api.Agency) { a.Rate = -1 }, false},
		"Rate 0":           {func(a *api.Agency) { a.Rate = 0 }, true},
		"Rate as Burst":    {func(a *api.Agency) { a.Rate = 5 }, true},
		"Rate above Burst": {func(a *api.Agency) { a.Rate = 6 }, false},
		"both 1000":        {func(a *api.Agency) { a.Rate, a.Burst = 1000, 1000 }, true},
	} {
		a := agency()
		x.change(&a)
		if plan.Agency(a) != x.want {
			t.Errorf("%s: it is not %v", name, x.want)
		}
	}
}

func TestConfig(t *testing.T) {
	for name, x := range map[string]struct {
		change func(c *api.Config)
		want   bool
	}{
		"as it is":            {func(c *api.Config) {}, true},
		"no junctions":        {func(c *api.Config) { c.Junctions = nil }, false},
		"four junctions":      {func(c *api.Config) { c.Junctions = slices.Repeat(c.Junctions, 4) }, true},
		"five junctions":      {func(c *api.Config) { c.Junctions = slices.Repeat(c.Junctions, 5) }, false},
		"an invalid junction": {func(c *api.Config) { c.Junctions = append(c.Junctions, api.Junction{}) }, false},
		"no agencies":         {func(c *api.Config) { c.Agencies = nil }, false},
		"four agencies":       {func(c *api.Config) { c.Agencies = slices.Repeat(c.Agencies, 4) }, true},
		"five agencies":       {func(c *api.Config) { c.Agencies = slices.Repeat(c.Agencies, 5) }, false},
		"an invalid agency":   {func(c *api.Config) { c.Agencies = append(c.Agencies, api.Agency{}) }, false},
		"Period 0":            {func(c *api.Config) { c.Period = 0 }, false},
		"Period 1":            {func(c *api.Config) { c.Period = 1 }, true},
		"Period 600":          {func(c *api.Config) { c.Period = 600 }, true},
		"Period 601":          {func(c *api.Config) { c.Period = 601 }, false},
		"Cap -1":              {func(c *api.Config) { c.Cap = -1 }, false},
		"Cap 0":               {func(c *api.Config) { c.Cap = 0 }, true},
		"Cap 100":             {func(c *api.Config) { c.Cap = 100 }, true},
		"Cap 101":             {func(c *api.Config) { c.Cap = 101 }, false},
		"Hold 0":              {func(c *api.Config) { c.Hold = 0 }, false},
		"Hold 1":              {func(c *api.Config) { c.Hold = 1 }, true},
		"Hold 60":             {func(c *api.Config) { c.Hold = 60 }, true},
		"Hold 61":             {func(c *api.Config) { c.Hold = 61 }, false},
		"Lockout -1":          {func(c *api.Config) { c.Lockout = -1 }, false},
		"Lockout 0":           {func(c *api.Config) { c.Lockout = 0 }, true},
		"Lockout 600":         {func(c *api.Config) { c.Lockout = 600 }, true},
		"Lockout 601":         {func(c *api.Config) { c.Lockout = 601 }, false},
	} {
		c := config()
		x.change(&c)
		if plan.Config(c) != x.want {
			t.Errorf("%s: it is not %v", name, x.want)
		}
	}
}

func TestGroups(t *testing.T) {
	for groups := 1; groups <= 4; groups++ {
		for n := groups; n <= 8; n++ {
			if g := plan.Groups(full(n, groups)); g != groups {
				t.Errorf("Groups with %d groups = %d", groups, g)
			}
		}
	}
	if g := plan.Groups(crossing()); g != 2 {
		t.Errorf("Groups = %d", g)
	}
}

func TestOf(t *testing.T) {
	for _, x := range []struct {
		ring, group int
		want        []int
	}{
		{0, 0, []int{0, 1}}, {1, 0, []int{2, 3}}, {0, 1, []int{4}}, {1, 1, []int{5}},
		{0, 2, nil}, {2, 0, nil}, {-1, 0, nil}, {0, -1, nil}, {math.MaxInt, math.MinInt, nil},
	} {
		if got := plan.Of(crossing(), x.ring, x.group); !slices.Equal(got, x.want) {
			t.Errorf("Of(%d, %d) = %v", x.ring, x.group, got)
		}
	}
	if got := plan.Of(full(8, 3), 0, 1); !slices.Equal(got, []int{1, 4, 7}) {
		t.Errorf("Of = %v", got)
	}
}
