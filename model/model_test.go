package model_test

import (
	"fmt"
	"math"
	"math/rand"
	"testing"

	"signalbroker/api"
	"signalbroker/arbiter"
	"signalbroker/desk"
	"signalbroker/drive"
	"signalbroker/junction"
	"signalbroker/message"
	"signalbroker/model"
	"signalbroker/record"
	"signalbroker/request"
	"signalbroker/status"
	"signalbroker/token"
)

func agency(secret string, sessions int) api.Agency {
	return api.Agency{Secret: []byte(secret), Rights: 63, Class: 3, Limits: []int{2, 2, 2, 2}, Requests: 3, Sessions: sessions, Rate: 2, Burst: 9}
}

func phase(ring int) api.Phase {
	return api.Phase{Ring: ring, MinGreen: 2, MaxGreen: 3, Yellow: 1, Red: 1}
}

// config has two junctions, one agency with two sessions, and one with one.
func config() api.Config {
	return api.Config{
		Junctions: []api.Junction{
			{Phases: []api.Phase{phase(0), phase(0)}, Conflicts: []int{2, 1}},
			{Phases: []api.Phase{phase(0), phase(1), phase(0)}, Conflicts: []int{4, 4, 3}, Start: 1},
		},
		Agencies: []api.Agency{agency("12345678", 2), agency("abcdefgh", 1)},
		Period:   4, Cap: 3, Hold: 2, Lockout: 3,
	}
}

func broken() api.Config {
	cfg := config()
	cfg.Hold = 0
	return cfg
}

// item is a frame with the first token of an agency.
func item(agency, kind int, args ...int) api.Item {
	a := config().Agencies[agency]
	payload, code := message.Encode(api.Message{Kind: kind, Token: token.Bytes(agency, 0, a.Secret), Args: args})
	if code != api.OK {
		panic(fmt.Sprint("no message: ", kind, args))
	}
	return api.Item{Kind: kind, Payload: payload}
}

func open(items ...api.Item) api.Input { return api.Input{Open: true, Items: items} }

func expect(t *testing.T, name string, got, want any) {
	t.Helper()
	if fmt.Sprint(got) != fmt.Sprint(want) {
		t.Errorf("%s: %v, not %v", name, got, want)
	}
}

func TestNew(t *testing.T) {
	c, cfg := model.New(config()), config()
	want := api.City{
		Config:   cfg,
		Desks:    []api.Desk{desk.New(0, cfg.Agencies[0]), desk.New(1, cfg.Agencies[1])},
		Signals:  []api.Signal{junction.New(cfg.Junctions[0]), junction.New(cfg.Junctions[1])},
		Services: []api.Service{arbiter.New(2), arbiter.New(3)},
		Stuck:    []int{-1, -1},
	}
	for k, j := range cfg.Junctions {
		want.Views = append(want.Views, record.Of(j, want.Signals[k], want.Services[k]))
	}
	expect(t, "New", c, want)
}

func TestRefused(t *testing.T) {
	many := config()
	for range 4 {
		many.Junctions = append(many.Junctions, many.Junctions[0])
	}
	for _, cfg := range []api.Config{broken(), many, {}} {
		c := model.New(cfg)
		if !c.Refused || c.Now != 0 || len(c.Desks)+len(c.Signals)+len(c.Services)+len(c.Stuck) != 0 || len(c.Views) != len(cfg.Junctions) {
			t.Errorf("New = %v", c)
		}
		for k, v := range c.Views {
			expect(t, "a view", v, record.Flashing(cfg.Junctions[k]))
		}
		notice := []api.Message{{Kind: api.KindNotice, Args: []int{int(api.ErrConfig)}}}
		for now := 1; now < 4; now++ {
			next, said := model.Tick(c, []api.Input{{}, open(item(0, api.KindHello)), open(), {Items: []api.Item{{Kind: 3}}}})
			c.Now = now
			expect(t, "the city", next, c)
			expect(t, "the sessions", said.Sessions, [][]api.Message{nil, notice, notice, nil})
			expect(t, "the feed", said.Feed, notice)
			next, said = model.Tick(next, nil)
			expect(t, "without inputs", said, api.Said{Feed: notice})
			expect(t, "Draw", model.Draw(c, 0, make([]byte, 8)), c)
			expect(t, "Stuck", model.Stuck(c, 0, 0), c)
			expect(t, "the views", next.Views, c.Views)
		}
	}
}

func TestDraw(t *testing.T) {
	c := model.New(config())
	nonce := []byte("nonce001")
	want := model.New(config())
	for k := range 10 {
		nonce[7] = byte(k)
		kept := fmt.Sprint(c)
		next := model.Draw(c, 1, nonce)
		expect(t, "the argument", c, kept)
		if k < api.MaxDraws {
			want.Desks[1].Draws = append(want.Desks[1].Draws, []byte{'n', 'o', 'n', 'c', 'e', '0', '0', byte(k)})
		}
		expect(t, "Draw", next, want)
		c = next
	}
	for _, n := range []int{-1, 2, 3, 4, math.MinInt, math.MaxInt} {
		expect(t, "no agency", model.Draw(c, n, nonce), c)
	}
	for _, n := range []int{0, 1, 7, 9, 16} {
		expect(t, "another length", model.Draw(c, 0, make([]byte, n)), c)
	}
	c = model.Draw(c, 0, nonce)
	nonce[0] = 0
	expect(t, "a copy", c.Desks[0].Draws, [][]byte{{'n', 'o', 'n', 'c', 'e', '0', '0', 9}})
}

func TestStuck(t *testing.T) {
	c := model.New(config())
	for _, x := range [][2]int{{0, 0}, {0, 1}, {1, 0}, {1, 2}} {
		want := c
		want.Stuck = []int{-1, -1}
		want.Stuck[x[0]] = x[1]
		expect(t, "Stuck", model.Stuck(c, x[0], x[1]), want)
		expect(t, "Stuck twice", model.Stuck(model.Stuck(c, x[0], 0), x[0], x[1]), want)
		expect(t, "no phase then", model.Stuck(want, x[0], 3), want)
	}
	for _, x := range [][2]int{{-1, 0}, {2, 0}, {math.MaxInt, 0}, {0, -1}, {0, 2}, {1, 3}, {1, math.MaxInt}, {0, math.MinInt}} {
		expect(t, "no such phase", model.Stuck(c, x[0], x[1]), c)
	}
}

// busy is a city after some ticks: each agency has a vehicle of the class 1 and one of the class 3, and a request.
func busy() api.City {
	c := model.New(config())
	c, _ = model.Tick(c, []api.Input{
		open(item(0, 4, 1, 1), item(0, 4, 3, 3), item(0, 6, 7, 1, 90, 0, 1, 0, 60, 1, 2, 3, 60)), {},
		open(item(1, 4, 1, 1), item(1, 4, 3, 3), item(1, 6, 5, 1, 90, 0, 0, 0, 50)),
	})
	return c
}

func TestClaims(t *testing.T) {
	c := busy()
	first, second := api.Claim{Agency: 0, ID: 7, Phase: 1, Class: 1, Since: 1}, api.Claim{Agency: 1, ID: 5, Phase: 0, Class: 1, Since: 1}
	expect(t, "at 0", model.Claims(c, 0), []api.Claim{first, second})
	expect(t, "at 1", model.Claims(c, 1), []api.Claim{})
	for range 3 {
		c, _ = model.Tick(c, nil)
	}
	expect(t, "at 1 later", model.Claims(c, 1), []api.Claim{{Agency: 0, ID: 7, Phase: 2, Class: 1, Since: 4}})
	for _, n := range []int{-1, 2, math.MaxInt} {
		expect(t, "at no junction", model.Claims(c, n), []api.Claim{})
	}
	expect(t, "refused", model.Claims(model.New(broken()), 0), []api.Claim{})
}

// oracle makes a tick in the steps of the document.
func oracle(c api.City, in []api.Input) (api.City, api.Said) {
	cfg := c.Config
	input := make([]api.Input, 3)
	copy(input, in)
	c.Now++
	first, second := desk.Begin(c.Desks[0], c.Now), desk.Begin(c.Desks[1], c.Now)
	first, r0, e0, x0 := desk.Tick(cfg, first, input[:2], c.Now)
	second, r1, e1, x1 := desk.Tick(cfg, second, input[2:], c.Now)
	signals := append([]api.Signal(nil), c.Signals...)
	for _, k := range append(x0, x1...) {
		signals[k], _ = junction.Reset(cfg.Junctions[k], signals[k])
	}
	next := api.City{Config: cfg, Now: c.Now, Desks: []api.Desk{first, second}, Stuck: []int{-1, -1}}
	for k, j := range cfg.Junctions {
		claims := append(request.Claims(first.Requests, 0, k), request.Claims(second.Requests, 1, k)...)
		s, v := drive.Step(cfg, j, signals[k], c.Services[k], claims, c.Stuck[k], c.Now)
		next.Signals, next.Services = append(next.Signals, s), append(next.Services, v)
		next.Views = append(next.Views, record.Of(j, s, v))
	}
	trail := api.Message{Kind: api.KindTrail, Args: []int{c.Now}}
	for k, e := range append(e0, e1...) {
		if k < 16 {
			trail.Args = append(trail.Args, e.Agency, e.Kind, int(e.Code))
		}
	}
	said := api.Said{Feed: []api.Message{status.Feed(c.Now, next.Views)}}
	for s, replies := range [][]api.Message{r0[0], r0[1], r1[0]} {
		d, own := first, s
		if s == 2 {
			d, own = second, 0
		}
		var l []api.Message
		if input[s].Open {
			l = append(append(l, replies...), desk.Status(d, next.Views, c.Now))
			if d.Audit[own] {
				l = append(l, trail)
			}
		}
		said.Sessions = append(said.Sessions, l)
	}
	return next, said
}

func expectTick(t *testing.T, name string, c api.City, in []api.Input) (api.City, api.Said) {
	t.Helper()
	kept := fmt.Sprint(c, in)
	city, said := oracle(c, in)
	got, told := model.Tick(c, in)
	expect(t, name+": the arguments", fmt.Sprint(c, in), kept)
	expect(t, name+": the city", got, city)
	expect(t, name+": what is said", told, said)
	return got, told
}

func TestTick(t *testing.T) {
	audit, submit := item(0, api.KindAudit, 1), item(0, 6, 8, 3, 50, 1, 0, 0, 9)
	for name, in := range map[string][]api.Input{
		"nothing":            nil,
		"silence":            {open(), open(), open()},
		"missing inputs":     {open(item(0, api.KindHello))},
		"further inputs":     {open(), {}, open(), open(item(0, api.KindHello)), open()},
		"orders":             {open(item(0, 9), submit), open(item(0, 12)), open(item(1, 9), api.Item{Code: api.ErrSum})},
		"another agency":     {open(item(1, 9)), {}, open(item(0, 9))},
		"audits":             {open(audit, submit, submit), open(audit), open(item(1, api.KindAudit, 1), item(1, 9))},
		"one audit":          {open(submit), open(audit), open(item(1, 9))},
		"an audit that ends": {open(audit, item(0, api.KindAudit, 0)), {}, open(item(1, 9))},
		"closed":             {{Items: []api.Item{audit}}, {}, {Items: []api.Item{submit}}},
		"reset":              {open(item(0, api.KindReset, 0)), {}, open(item(1, api.KindReset, 1), item(1, api.KindReset, 1))},
	} {
		c := busy()
		for range 3 {
			c, _ = expectTick(t, name, c, in)
		}
		c, _ = expectTick(t, name+", stuck", model.Stuck(model.Stuck(c, 0, 0), 1, 1), in)
		c, _ = expectTick(t, name+", stuck the other way", model.Stuck(model.Stuck(c, 0, 1), 1, 2), in)
		for range 3 {
			c, _ = expectTick(t, name+", latched", c, in)
		}
	}
}

func TestTrailIsCut(t *testing.T) {
	var items []api.Item
	for range 15 {
		items = append(items, item(0, 9))
	}
	in := []api.Input{open(append(items, item(0, api.KindAudit, 1))...), {}, open(item(1, 12), api.Item{Code: api.ErrMagic})}
	_, said := expectTick(t, "sixteen entries", busy(), in)
	m := said.Sessions[0][len(said.Sessions[0])-1]
	if m.Kind != api.KindTrail || len(m.Args) != 49 || m.Args[47] != api.KindAudit {
		t.Errorf("the trail: %v", m)
	}
	in[0].Items = in[0].Items[1:]
	_, said = expectTick(t, "of two agencies", busy(), in)
	m = said.Sessions[0][len(said.Sessions[0])-1]
	expect(t, "the last entry", m.Args[46:], []int{1, 12, 0})
	expect(t, "no trail for the other", len(said.Sessions[2]), 3)
}

// A message that is not valid is not said.
func TestInvalidMessages(t *testing.T) {
	in := []api.Input{open(item(0, 9), api.Item{Kind: -1}, item(0, 12), api.Item{Code: -1}), {}, open(item(1, api.KindAudit, 1))}
	_, said := model.Tick(busy(), in)
	var kinds [][]int
	for _, l := range said.Sessions {
		var k []int
		for _, m := range l {
			k = append(k, m.Kind)
		}
		kinds = append(kinds, k)
	}
	expect(t, "the kinds", kinds, [][]int{{api.KindHolding, api.KindLeft, api.KindStatus}, nil, {api.KindAck, api.KindStatus}})
}

func TestNowHasAnEnd(t *testing.T) {
	c := busy()
	c.Now = api.MaxTick - 1
	for range 3 {
		var said api.Said
		if c, said = model.Tick(c, []api.Input{open()}); c.Now != api.MaxTick || said.Feed[0].Args[0] != api.MaxTick {
			t.Errorf("Now = %d", c.Now)
		}
	}
	c = model.New(broken())
	c.Now = api.MaxTick
	if c, _ = model.Tick(c, nil); c.Now != api.MaxTick {
		t.Errorf("Now of a refused city = %d", c.Now)
	}
}

// A junction that latches flashes until it is reset, and begins anew then.
func TestLatchAndReset(t *testing.T) {
	c := busy()
	for c.Signals[0].Control.Lights[1].Lamp != api.LampGreen {
		c, _ = model.Tick(c, nil)
	}
	c, _ = model.Tick(model.Stuck(c, 0, 0), nil)
	expect(t, "stuck", c.Stuck, []int{-1, -1})
	for range 5 {
		expect(t, "the view", c.Views[0], record.Flashing(config().Junctions[0]))
		c, _ = model.Tick(c, nil)
	}
	c, said := model.Tick(c, []api.Input{{}, {}, open(item(1, api.KindReset, 0))})
	if c.Signals[0].Latched || c.Views[0].Flash {
		t.Errorf("after the reset: %v", c.Signals[0])
	}
	expect(t, "the reply", said.Sessions[2][0], api.Message{Kind: api.KindAck, Args: []int{api.KindReset, 0}})
}

// Random items: the tick is that of the document, and no two phases that conflict are shown non-red together.
func TestRandomItems(t *testing.T) {
	r := rand.New(rand.NewSource(1))
	for range 60 {
		c := busy()
		for range 40 {
			var in []api.Input
			for s := range 3 {
				x := api.Input{Open: r.Intn(5) > 0}
				for range r.Intn(4) {
					x.Items = append(x.Items, randomItem(r, s/2))
				}
				in = append(in, x)
			}
			if r.Intn(15) == 0 {
				c = model.Stuck(c, r.Intn(2), r.Intn(3))
			}
			if r.Intn(5) == 0 {
				c = model.Draw(c, r.Intn(2), []byte("nonce00"+string(rune('0'+r.Intn(9)))))
			}
			c, _ = expectTick(t, "random", c, in[:2+r.Intn(2)])
			for k, s := range c.Signals {
				lamps := junction.Lamps(s)
				for p, row := range c.Config.Junctions[k].Conflicts {
					for q := range lamps {
						if row>>q&1 == 1 && (lamps[p] == 1 || lamps[p] == 2) && (lamps[q] == 1 || lamps[q] == 2) {
							t.Fatalf("%d and %d at %d: %v", p, q, k, lamps)
						}
					}
				}
			}
		}
	}
}

func randomItem(r *rand.Rand, agency int) api.Item {
	small := func() int { return r.Intn(4) }
	switch r.Intn(9) {
	case 0:
		return item(agency, 6, small(), 1+2*r.Intn(2), 5+r.Intn(30), r.Intn(2), r.Intn(3), small(), 4+r.Intn(20))
	case 1:
		return item(agency, 7, small(), small(), 4+r.Intn(9))
	case 2:
		return item(agency, 8, small())
	case 3:
		return item(agency, 2, r.Intn(64), small(), r.Intn(9))
	case 4:
		return item(agency, 3, small())
	case 5:
		return item(agency, 10, r.Intn(3))
	case 6:
		return item(agency, 11, r.Intn(3))
	case 7:
		return api.Item{Code: api.Errno(r.Intn(19)), Kind: r.Intn(30)}
	}
	return item(agency, []int{1, 9, 12}[r.Intn(3)])
}
