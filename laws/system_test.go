package laws

import (
	"fmt"
	"math/rand"
	"testing"

	"signalbroker/api"
	"signalbroker/broker"
	"signalbroker/junction"
	"signalbroker/lamp"
	"signalbroker/message"
)

// busyScript returns a script in which the sessions of a configuration ask for much.
func (m *maker) busyScript(cfg api.Config) []api.Event {
	l := []api.Event{}
	for s := range broker.Base(cfg, len(cfg.Agencies)) {
		a, _ := broker.Owner(cfg, s)
		l = append(l, api.Event{Kind: api.EvOpen, Session: s}, m.order(a, s, api.KindRegister, 1, 0), m.order(a, s, api.KindRegister, 2, 3))
	}
	for len(l) < 200 {
		s := m.r.Intn(broker.Base(cfg, len(cfg.Agencies)))
		a, _ := broker.Owner(cfg, s)
		j := m.r.Intn(len(cfg.Junctions))
		switch m.r.Intn(16) {
		case 0, 1, 2:
			l = append(l, m.order(a, s, api.KindSubmit, m.r.Intn(4), 1+m.r.Intn(2), 10+m.r.Intn(90), j, m.r.Intn(len(cfg.Junctions[j].Phases)), m.r.Intn(5), 5+m.r.Intn(90)))
		case 3:
			l = append(l, m.order(a, s, api.KindCancel, m.r.Intn(4)))
		case 4:
			l = append(l, m.order(a, s, api.KindDerive, m.r.Intn(64), m.r.Intn(4), m.r.Intn(9)))
		case 5:
			l = append(l, m.order(a, s, api.KindReset, j))
		case 6:
			l = append(l, api.Event{Kind: api.EvDraw, A: a, Bytes: []byte(secret)})
		case 7:
			if m.r.Intn(4) == 0 {
				l = append(l, api.Event{Kind: api.EvStuck, A: j, B: m.r.Intn(6)})
			}
		default:
			l = append(l, api.Event{Kind: api.EvTick})
		}
	}
	return l
}

// order returns the event in which a session receives a message with the first token of its agency.
func (m *maker) order(agency, session, kind int, args ...int) api.Event {
	x := api.Message{Kind: kind, Token: append([]byte{byte(agency), 0}, secret...), Args: args}
	f, _ := message.Frame(x)
	return api.Event{Kind: api.EvBytes, Session: session, Bytes: f}
}

// lasting says for how long a phase has had its lamp.
type lasting struct{ lamp, ticks int }

// next checks that a phase may show a lamp after another one, and for how long it did show that.
func next(t *testing.T, p api.Phase, was lasting, now int) lasting {
	t.Helper()
	if was.lamp == now {
		return lasting{now, was.ticks + 1}
	}
	ok := false
	switch was.lamp {
	case api.LampRed:
		ok = now == api.LampGreen
	case api.LampGreen:
		ok = now == api.LampYellow && was.ticks >= p.MinGreen && was.ticks >= p.Walk+p.Clear
	case api.LampYellow:
		ok = was.ticks == p.Yellow && (now == api.LampClear || p.Red == 0)
	case api.LampClear:
		// The phase may be the next one of its ring again in the tick in which it is red.
		ok = was.ticks == p.Red && now != api.LampYellow
	}
	if !ok {
		t.Fatalf("T5: the phase %v shows the lamp %d after %v", p, now, was)
	}
	return lasting{now, 1}
}

// T5: no two phases that conflict are shown non-red together, greens and what follows them have their full lengths, and a latched junction flashes.
func TestInterlock(t *testing.T) {
	m := &maker{r: rand.New(rand.NewSource(5))}
	latched := 0
	for range 60 {
		cfg := m.config()
		b := broker.New(cfg)
		shown := map[[2]int]lasting{}
		for _, e := range m.busyScript(cfg) {
			before := b.City.Signals
			nextBroker, _, ticked := broker.Do(b, e)
			b = nextBroker
			for k, j := range cfg.Junctions {
				s := b.City.Signals[k]
				lamps := junction.Lamps(s)
				conflictFree(t, j, lamps)
				for p := range lamps {
					place := [2]int{k, p}
					switch {
					case s.Latched && lamps[p] != api.LampFlash:
						t.Fatal("T5: a latched junction does not flash")
					case s.Latched || before[k].Latched:
						latched++
						shown[place] = lasting{lamp: s.Control.Lights[p].Lamp}
						if !s.Latched {
							shown[place] = lasting{lamp: lamps[p], ticks: 1}
						}
					case ticked:
						shown[place] = next(t, j.Phases[p], shown[place], lamps[p])
					}
				}
			}
		}
	}
	if latched == 0 {
		t.Error("no junction is ever latched")
	}
}

func conflictFree(t *testing.T, j api.Junction, lamps []int) {
	t.Helper()
	for p := range lamps {
		for q := range lamps {
			if j.Conflicts[p]>>q&1 == 1 && lamp.NonRed(api.Light{Lamp: lamps[p]}) && lamp.NonRed(api.Light{Lamp: lamps[q]}) {
				t.Fatalf("T5: the phases %d and %d show %v", p, q, lamps)
			}
		}
	}
}

// changed returns the frames of an event with a token of which one bit is changed.
func changed(r *rand.Rand, e api.Event) api.Event {
	if e.Kind != api.EvBytes {
		return e
	}
	m, code := message.Decode(int(e.Bytes[3]), e.Bytes[6:len(e.Bytes)-4])
	if code != api.OK {
		panic("no message")
	}
	m.Token[r.Intn(len(m.Token))] ^= 1 << r.Intn(8)
	e.Bytes, _ = message.Frame(m)
	return e
}

// T3: frames without a token that was issued change nothing.
func TestForgedTokens(t *testing.T) {
	m := &maker{r: rand.New(rand.NewSource(6))}
	for range 60 {
		cfg := m.config()
		forged, silent := broker.New(cfg), broker.New(cfg)
		for _, e := range m.busyScript(cfg) {
			forged, _, _ = broker.Do(forged, changed(m.r, e))
			if e.Kind != api.EvBytes {
				silent, _, _ = broker.Do(silent, e)
			}
		}
		if fmt.Sprint(forged.City) != fmt.Sprint(silent.City) {
			t.Fatalf("T3: forged tokens change the city")
		}
	}
}

// T3: no agency carries out more changing operations than its budget permits.
func TestBudgets(t *testing.T) {
	m := &maker{r: rand.New(rand.NewSource(7))}
	refused := 0
	for range 60 {
		cfg := m.config()
		b := broker.New(cfg)
		done := make([]int, len(cfg.Agencies))
		for _, e := range m.busyScript(cfg) {
			nextBroker, out, ticked := broker.Do(b, e)
			b = nextBroker
			if !ticked {
				continue
			}
			for s, sent := range out.Sessions {
				a, _ := broker.Owner(cfg, s)
				n, late := operations(sent)
				done[a] += n
				refused += late
			}
			for a, x := range cfg.Agencies {
				if done[a] > x.Burst+b.City.Now*x.Rate {
					t.Fatalf("T3: %d operations of an agency with the rate %d and the burst %d after %d ticks", done[a], x.Rate, x.Burst, b.City.Now)
				}
			}
		}
	}
	if refused == 0 {
		t.Error("no budget is ever used up")
	}
}

// operations counts what was carried out, and what was over the budget.
func operations(sent []byte) (done, late int) {
	for len(sent) > 0 {
		size := 10 + int(sent[4])<<8 + int(sent[5])
		m, _ := message.Decode(int(sent[3]), sent[6:size-4])
		switch {
		case m.Kind == api.KindIssued || m.Kind == api.KindAck && m.Args[0] <= api.KindCancel:
			done++
		case m.Kind == api.KindFault && m.Args[1] == int(api.ErrRate):
			late++
		}
		sent = sent[size:]
	}
	return done, late
}
