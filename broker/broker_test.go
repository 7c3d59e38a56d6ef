package broker_test

import (
	"bytes"
	"fmt"
	"math"
	"math/rand"
	"testing"

	"signalbroker/api"
	"signalbroker/broker"
	"signalbroker/frame"
	"signalbroker/inbox"
	"signalbroker/message"
	"signalbroker/model"
	"signalbroker/stream"
	"signalbroker/token"
)

func agency(secret string, sessions int) api.Agency {
	return api.Agency{Secret: []byte(secret), Rights: 63, Class: 3, Limits: []int{2, 2, 2, 2}, Requests: 3, Sessions: sessions, Rate: 2, Burst: 9}
}

func phase(ring int) api.Phase {
	return api.Phase{Ring: ring, MinGreen: 2, MaxGreen: 3, Yellow: 1, Red: 1}
}

// config has two junctions, one agency with two sessions, and one with one.
func config() api.Config {
	return api.Config{
		Junctions: []api.Junction{
			{Phases: []api.Phase{phase(0), phase(0)}, Conflicts: []int{2, 1}},
			{Phases: []api.Phase{phase(0), phase(1), phase(0)}, Conflicts: []int{4, 4, 3}, Start: 1},
		},
		Agencies: []api.Agency{agency("12345678", 2), agency("abcdefgh", 1)},
		Period:   4, Cap: 3, Hold: 2, Lockout: 3,
	}
}

func broken() api.Config {
	cfg := config()
	cfg.Period = 0
	return cfg
}

// order is the frame of a message with the first token of an agency.
func order(agency, kind int, args ...int) []byte {
	a := config().Agencies[agency]
	f, code := message.Frame(api.Message{Kind: kind, Token: token.Bytes(agency, 0, a.Secret), Args: args})
	if code != api.OK {
		panic(fmt.Sprint("no message: ", kind, args))
	}
	return f
}

func open(s int) api.Event            { return api.Event{Kind: api.EvOpen, Session: s} }
func drop(s int) api.Event            { return api.Event{Kind: api.EvDrop, Session: s} }
func send(s int, b ...byte) api.Event { return api.Event{Kind: api.EvBytes, Session: s, Bytes: b} }
func draw(a int, b ...byte) api.Event { return api.Event{Kind: api.EvDraw, A: a, Bytes: b} }
func stuck(j, p int) api.Event        { return api.Event{Kind: api.EvStuck, A: j, B: p} }

var tick = api.Event{Kind: api.EvTick}

func expect(t *testing.T, name string, got, want any) {
	t.Helper()
	if fmt.Sprint(got) != fmt.Sprint(want) {
		t.Errorf("%s: %v, not %v", name, got, want)
	}
}

func TestNew(t *testing.T) {
	expect(t, "New", broker.New(config()), api.Broker{City: model.New(config()), Sessions: make([]api.Session, 3)})
	expect(t, "a refused one", broker.New(broken()), api.Broker{City: model.New(broken())})
}

func TestBaseAndOwner(t *testing.T) {
	cfg := config()
	cfg.Agencies = []api.Agency{agency("12345678", 2), agency("12345678", 1), agency("12345678", 2), agency("12345678", 1)}
	for k, want := range []int{0, 2, 3, 5} {
		if n := broker.Base(cfg, k); n != want {
			t.Errorf("Base(%d) = %d", k, n)
		}
	}
	for s, want := range [][2]int{{0, 0}, {0, 1}, {1, 0}, {2, 0}, {2, 1}, {3, 0}, {-1, -1}, {-1, -1}} {
		if a, n := broker.Owner(cfg, s); a != want[0] || n != want[1] {
			t.Errorf("Owner(%d) = %d, %d", s, a, n)
		}
	}
	for _, s := range []int{-1, math.MinInt, math.MaxInt} {
		if a, n := broker.Owner(cfg, s); a != -1 || n != -1 {
			t.Errorf("Owner(%d) = %d, %d", s, a, n)
		}
	}
}

// expectSilent carries out an event that is no tick, and expects the broker with a change.
func expectSilent(t *testing.T, name string, b api.Broker, e api.Event, change func(b *api.Broker)) api.Broker {
	t.Helper()
	kept := fmt.Sprint(b, e)
	got, out, ticked := broker.Do(b, e)
	expect(t, name+": the arguments", fmt.Sprint(b, e), kept)
	expect(t, name+": the output", out, api.Output{})
	if ticked {
		t.Errorf("%s: it is a tick", name)
	}
	b.Sessions = append([]api.Session(nil), b.Sessions...)
	if change != nil {
		change(&b)
	}
	expect(t, name+": the broker", got, b)
	return got
}

func TestSilentEvents(t *testing.T) {
	b := broker.New(config())
	for s := range 3 {
		expectSilent(t, "bytes of a closed session", b, send(s, 1, 2), nil)
		expectSilent(t, "drop of a closed session", b, drop(s), nil)
		b = expectSilent(t, "open", b, open(s), func(b *api.Broker) { b.Sessions[s].Open = true })
	}
	b = expectSilent(t, "bytes", b, send(1, 7, 8, 9), func(b *api.Broker) { b.Sessions[1] = inbox.Receive(b.Sessions[1], []byte{7, 8, 9}) })
	expectSilent(t, "open again", b, open(1), nil)
	expectSilent(t, "no bytes", b, send(1), nil)
	expectSilent(t, "drop", b, drop(1), func(b *api.Broker) { b.Sessions[1] = api.Session{} })
	expectSilent(t, "too many bytes", b, send(0, make([]byte, 257)...), func(b *api.Broker) {
		b.Sessions[0] = api.Session{Open: true, Dropped: true, Stream: api.Stream{Buffer: make([]byte, 256)}}
	})
	for a := range 2 {
		nonce := []byte("nonce001")
		expectSilent(t, "draw", b, draw(a, nonce...), func(b *api.Broker) { b.City = model.Draw(b.City, a, nonce) })
		expectSilent(t, "draw with a session", b, api.Event{Kind: api.EvDraw, Session: 2, A: a, B: 7, Bytes: nonce}, func(b *api.Broker) { b.City = model.Draw(b.City, a, nonce) })
	}
	expectSilent(t, "stuck", b, stuck(1, 2), func(b *api.Broker) { b.City = model.Stuck(b.City, 1, 2) })
	expectSilent(t, "stuck", b, stuck(0, 1), func(b *api.Broker) { b.City = model.Stuck(b.City, 0, 1) })
}

func TestEventsThatChangeNothing(t *testing.T) {
	b, _, _ := broker.Do(broker.New(config()), open(0))
	b, _, _ = broker.Do(b, send(0, 1, 2))
	refused := broker.New(broken())
	nonce := []byte("nonce001")
	for _, e := range []api.Event{
		{}, {Kind: -1}, {Kind: 7, Bytes: nonce}, {Kind: math.MaxInt},
		open(-1), open(3), open(math.MaxInt), drop(-1), drop(3), send(-1, 1), send(3, 1), send(math.MinInt, 1),
		draw(-1, nonce...), draw(2, nonce...), draw(0, 1, 2), draw(0),
		stuck(-1, 0), stuck(2, 0), stuck(0, 2), stuck(0, -1), stuck(1, 3),
	} {
		expectSilent(t, fmt.Sprint(e), b, e, nil)
		expectSilent(t, fmt.Sprint("refused ", e), refused, e, nil)
	}
	for _, e := range []api.Event{open(0), send(0, 1), drop(0), draw(0, nonce...), stuck(0, 0)} {
		expectSilent(t, fmt.Sprint("refused ", e), refused, e, nil)
	}
}

// items returns the items of frames that were sent.
func items(t *testing.T, b []byte) []api.Item {
	t.Helper()
	l := stream.All(b)
	size := 0
	for _, it := range l {
		if it.Code != api.OK {
			t.Errorf("what was sent is no frames: %x", b)
		}
		size += frame.Size(len(it.Payload))
	}
	if size != len(b) {
		t.Errorf("what was sent is no whole frames: %x", b)
	}
	return l
}

func kinds(t *testing.T, b []byte) []int {
	var l []int
	for _, it := range items(t, b) {
		l = append(l, it.Kind)
	}
	return l
}

func TestExample(t *testing.T) {
	out := broker.Run(config(), []api.Event{open(1), tick})
	if len(out) != 1 || len(out[0].Sessions) != 3 {
		t.Fatalf("the output is %v", out)
	}
	for s, want := range [][]int{nil, {api.KindStatus}, nil} {
		expect(t, "a session", kinds(t, out[0].Sessions[s]), want)
	}
	expect(t, "the feed", kinds(t, out[0].Feed), []int{api.KindFeed})
}

func TestRefused(t *testing.T) {
	b := broker.New(broken())
	for range 3 {
		next, out, ticked := broker.Do(b, tick)
		expect(t, "the kinds", kinds(t, out.Feed), []int{api.KindNotice})
		if !ticked || len(out.Sessions) != 0 {
			t.Errorf("the output is %v", out)
		}
		b.City.Now++
		expect(t, "the broker", next, b)
	}
	out := broker.Run(broken(), []api.Event{open(0), send(0, order(0, api.KindHello)...), tick, tick})
	want, _ := message.Frame(api.Message{Kind: api.KindNotice, Args: []int{int(api.ErrConfig)}})
	expect(t, "the outputs", out, []api.Output{{Feed: want}, {Feed: want}})
}

// expectTick makes a tick, and expects the frames of what the model says on the items of the sessions.
func expectTick(t *testing.T, b api.Broker) (api.Broker, api.Output) {
	t.Helper()
	kept := fmt.Sprint(b)
	got, out, ticked := broker.Do(b, tick)
	expect(t, "the argument", b, kept)
	var in []api.Input
	want := api.Broker{}
	for _, s := range b.Sessions {
		rest, x := inbox.Take(s)
		want.Sessions, in = append(want.Sessions, rest), append(in, x)
	}
	var said api.Said
	want.City, said = model.Tick(b.City, in)
	expect(t, "the broker", got, want)
	var sent api.Output
	join := func(l []api.Message) []byte {
		var b []byte
		for _, m := range l {
			f, code := message.Frame(m)
			if code != api.OK {
				t.Errorf("%v is said", m)
			}
			b = append(b, f...)
		}
		return b
	}
	for _, l := range said.Sessions {
		sent.Sessions = append(sent.Sessions, join(l))
	}
	sent.Feed = join(said.Feed)
	expect(t, "the output", out, sent)
	if !ticked {
		t.Error("it is no tick")
	}
	return got, out
}

// script returns random events; what the sessions receive are mostly orders of their agencies.
func script(r *rand.Rand) []api.Event {
	l := []api.Event{open(0), open(1), open(2), send(0, order(0, 4, 1, 1)...), send(2, order(1, 4, 2, 3)...)}
	for range 60 {
		s := r.Intn(3)
		switch r.Intn(14) {
		case 0:
			l = append(l, open(r.Intn(4)))
		case 1:
			l = append(l, drop(r.Intn(4)))
		case 2:
			l = append(l, draw(r.Intn(3), []byte(fmt.Sprintf("nonce%03d", r.Intn(100)))...))
		case 3:
			l = append(l, stuck(r.Intn(3), r.Intn(3)))
		case 4:
			l = append(l, send(s, make([]byte, r.Intn(3))...))
		case 5, 6, 7, 8:
			l = append(l, send(s, request(r, s/2)...))
		default:
			l = append(l, tick)
		}
	}
	return l
}

func request(r *rand.Rand, agency int) []byte {
	small := func() int { return r.Intn(4) }
	switch r.Intn(8) {
	case 0, 1:
		return order(agency, 6, small(), 1+agency, 5+r.Intn(30), r.Intn(2), r.Intn(3), small(), 4+r.Intn(20))
	case 2:
		return order(agency, 7, small(), small(), 4+r.Intn(9))
	case 3:
		return order(agency, 8, small())
	case 4:
		return order(agency, 2, r.Intn(64), small(), r.Intn(9))
	case 5:
		return order(agency, 10, r.Intn(3))
	case 6:
		return order(agency, 11, r.Intn(3))
	}
	return bytes.Join([][]byte{order(agency, 1), order(agency, 9), order(agency, 12)}, nil)
}

func TestTicksAreThoseOfTheModel(t *testing.T) {
	r := rand.New(rand.NewSource(1))
	for range 60 {
		b, l := broker.New(config()), script(r)
		var outs []api.Output
		for _, e := range l {
			if e.Kind == api.EvTick {
				var out api.Output
				b, out = expectTick(t, b)
				outs = append(outs, out)
				continue
			}
			b, _, _ = broker.Do(b, e)
		}
		expect(t, "Run", broker.Run(config(), l), outs)
	}
}

// How bytes are cut into events, and the order of events of different sessions between two ticks, do not matter.
func TestPiecesAndOrderDoNotMatter(t *testing.T) {
	r := rand.New(rand.NewSource(2))
	for range 60 {
		l := script(r)
		var other, group []api.Event
		for _, e := range append(l, tick) {
			if e.Kind != api.EvTick {
				group = append(group, e)
				continue
			}
			for len(group) > 0 {
				// The first event of some session is next, whole or in part.
				s := group[r.Intn(len(group))].Session
				k := 0
				for group[k].Session != s {
					k++
				}
				first := group[k]
				if n := len(first.Bytes); first.Kind == api.EvBytes && n > 1 && r.Intn(2) == 0 {
					n = 1 + r.Intn(n-1)
					other = append(other, send(s, first.Bytes[:n]...))
					group[k].Bytes = first.Bytes[n:]
					continue
				}
				other = append(other, first)
				group = append(append([]api.Event{}, group[:k]...), group[k+1:]...)
			}
			other = append(other, tick)
		}
		if len(other) <= api.MaxScript {
			expect(t, "the outputs", broker.Run(config(), other), broker.Run(config(), append(l, tick)))
		}
	}
}

func TestLengthOfScripts(t *testing.T) {
	var l []api.Event
	for range 500 {
		l = append(l, tick)
	}
	for n, want := range map[int]int{0: 0, 1: 1, 399: 399, 400: 400, 401: 400, 500: 400} {
		if out := broker.Run(config(), l[:n]); len(out) != want {
			t.Errorf("%d events give %d outputs", n, len(out))
		}
	}
	out := broker.Run(config(), append(l[:399:399], open(0), tick))
	if len(out) != 399 {
		t.Errorf("%d outputs", len(out))
	}
}

// Frames that are not taken wait for the next tick, and what is dropped is told.
func TestWaitingAndDroppedBytes(t *testing.T) {
	var many []byte
	for range 6 {
		many = append(many, order(0, api.KindList)...)
	}
	out := broker.Run(config(), []api.Event{open(0), send(0, many...), tick, tick, tick})
	for k, want := range [][]int{{19, 19, 19, 19, 17}, {19, 19, 17}, {17}} {
		expect(t, "the kinds", kinds(t, out[k].Sessions[0]), want)
	}
	out = broker.Run(config(), []api.Event{open(0), send(0, bytes.Repeat(many, 5)...), tick})
	expect(t, "the kinds", kinds(t, out[0].Sessions[0]), []int{15, 19, 19, 19, 19, 17})
	expect(t, "the fault", items(t, out[0].Sessions[0])[0].Payload, []byte{0, byte(api.ErrInbox)})
}
