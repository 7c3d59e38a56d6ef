package laws

import (
	"math/rand"
	"testing"

	"signalbroker/api"
	"signalbroker/arbiter"
	"signalbroker/broker"
	"signalbroker/desk"
	"signalbroker/model"
	"signalbroker/plan"
	"signalbroker/registry"
	"signalbroker/ring"
	"signalbroker/token"
)

// secret is that of the first token of every agency.
const secret = "12345678"

// junction returns a random junction that is valid.
func (m *maker) junction() api.Junction {
	n, groups := 1+m.r.Intn(6), 1+m.r.Intn(3)
	j := api.Junction{Conflicts: make([]int, n), Start: m.r.Intn(4)}
	for p := range n {
		j.Phases = append(j.Phases, m.phase(m.r.Intn(api.MaxRings), p*min(n, groups)/n))
	}
	for p, a := range j.Phases {
		for q, b := range j.Phases[:p] {
			if a.Ring == b.Ring || a.Group != b.Group || m.r.Intn(3) == 0 {
				j.Conflicts[p] |= 1 << q
				j.Conflicts[q] |= 1 << p
			}
		}
	}
	m.last = j
	return j
}

func (m *maker) phase(ring, group int) api.Phase {
	p := api.Phase{Ring: ring, Group: group, MinGreen: 1 + m.r.Intn(3), Yellow: 1 + m.r.Intn(2), Red: m.r.Intn(3)}
	if m.r.Intn(3) == 0 {
		p.Walk, p.Clear = 1+m.r.Intn(2), 1+m.r.Intn(2)
	}
	p.MaxGreen = max(p.MinGreen, p.Walk+p.Clear) + m.r.Intn(3)
	return p
}

// control returns a control of the latest junction.
func (m *maker) control() api.Control {
	c, target := ring.Init(m.last), 0
	for range m.r.Intn(20) {
		if m.r.Intn(3) == 0 {
			target = m.r.Intn(8) - 1
		}
		c = ring.Step(m.last, c, target)
	}
	return c
}

// agency returns a random agency that is valid.
func (m *maker) agency() api.Agency {
	a := api.Agency{
		Secret:   []byte(secret),
		Rights:   api.AllRights,
		Class:    m.r.Intn(api.Classes),
		Limits:   []int{1 + m.r.Intn(3), m.r.Intn(4), m.r.Intn(4), m.r.Intn(9)},
		Requests: m.r.Intn(api.MaxRequests + 1),
		Sessions: 1 + m.r.Intn(api.MaxSessions),
		Burst:    3 + m.r.Intn(20),
	}
	if m.r.Intn(3) == 0 {
		a.Rights = m.r.Intn(api.AllRights + 1)
	}
	a.Rate = m.r.Intn(a.Burst + 1)
	return a
}

// tokens returns the slots of an agency.
func (m *maker) tokens() []api.Token {
	l := token.New(m.agency())
	for range m.r.Intn(8) {
		parent := m.r.Intn(3)
		if n, _, e := token.Derive(l, parent, l[parent].Rights&m.r.Intn(64), m.r.Intn(3), m.r.Intn(9), []byte(secret), m.r.Intn(5)); e == api.OK {
			l = n
		}
	}
	return l
}

func (m *maker) vehicles() []api.Vehicle {
	l := []api.Vehicle{}
	for id := range 8 {
		if m.r.Intn(3) == 0 {
			l = append(l, api.Vehicle{ID: id, Class: m.r.Intn(api.Classes)})
		}
	}
	return l
}

func (m *maker) registry() api.Registry {
	r := registry.New(m.r.Intn(2), m.agency())
	r.Tokens = m.tokens()
	r.Vehicles = m.vehicles()
	return r
}

func (m *maker) requests() []api.Request {
	l := []api.Request{}
	for id := range 8 {
		if m.r.Intn(3) > 0 || len(l) == api.MaxRequests {
			continue
		}
		r := api.Request{ID: id, Vehicle: m.r.Intn(4), Class: m.r.Intn(api.Classes), Until: m.r.Intn(20)}
		for _, junction := range m.r.Perm(api.MaxJunctions)[:1+m.r.Intn(api.MaxLegs)] {
			from := m.r.Intn(9)
			r.Legs = append(r.Legs, api.Leg{Junction: junction, Phase: m.r.Intn(4), From: from, To: from + m.r.Intn(9), Since: m.r.Intn(4) - 1})
		}
		l = append(l, r)
	}
	return l
}

// service returns a service of the latest junction.
func (m *maker) service() api.Service {
	s := arbiter.New(len(m.last.Phases))
	for range m.r.Intn(9) {
		s = arbiter.Decide(api.Config{Period: 2, Cap: 3, Hold: 2, Lockout: 2}, s, m.claims(), m.r.Intn(20))
		s = arbiter.Count(s, m.r.Intn(2) == 0)
	}
	return s
}

func (m *maker) claims() []api.Claim {
	l := []api.Claim{}
	for range m.r.Intn(5) {
		l = append(l, api.Claim{
			Agency: m.r.Intn(2),
			ID:     m.r.Intn(4),
			Phase:  m.r.Intn(max(1, len(m.last.Phases))),
			Class:  m.r.Intn(api.Classes),
			Since:  m.r.Intn(9),
		})
	}
	return l
}

func (m *maker) desk() api.Desk {
	d := desk.New(m.r.Intn(2), m.agency())
	d.Registry.Tokens = m.tokens()
	d.Registry.Vehicles = m.vehicles()
	d.Requests = m.requests()
	for range m.r.Intn(3) {
		d.Draws = append(d.Draws, []byte(secret))
	}
	return d
}

// config returns a random configuration that is valid.
func (m *maker) config() api.Config {
	c := api.Config{Period: 1 + m.r.Intn(9), Cap: m.r.Intn(5), Hold: 1 + m.r.Intn(4), Lockout: m.r.Intn(6)}
	for range 1 + m.r.Intn(2) {
		c.Junctions = append(c.Junctions, m.junction())
	}
	for range 1 + m.r.Intn(2) {
		c.Agencies = append(c.Agencies, m.agency())
	}
	return c
}

// city returns a city after some ticks.
func (m *maker) city() api.City {
	c := model.New(m.config())
	for k := range c.Desks {
		d := m.desk()
		d.Audit = c.Desks[k].Audit
		d.Registry.Number = k
		c.Desks[k] = d
	}
	for range m.r.Intn(6) {
		c = model.Draw(c, m.r.Intn(2), []byte(secret))
		c = model.Stuck(c, m.r.Intn(9), m.r.Intn(9))
		c, _ = model.Tick(c, m.inputs())
	}
	return c
}

// broker returns a broker after some events.
func (m *maker) broker() api.Broker {
	b := broker.New(m.config())
	for s := range 4 {
		b, _, _ = broker.Do(b, api.Event{Kind: api.EvOpen, Session: s})
	}
	for _, e := range m.script() {
		b, _, _ = broker.Do(b, e)
	}
	return b
}

func TestSamplesAreValid(t *testing.T) {
	m := &maker{r: rand.New(rand.NewSource(1))}
	for range 500 {
		if c := m.config(); !plan.Config(c) {
			t.Fatalf("%v is not valid", c)
		}
	}
}
