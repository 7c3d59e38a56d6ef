package view_test

import (
	"bytes"
	"encoding/binary"
	"fmt"
	"hash/crc32"
	"math/rand"
	"slices"
	"testing"

	"signalbroker/api"
	"signalbroker/broker"
	"signalbroker/frame"
	"signalbroker/message"
	"signalbroker/record"
	"signalbroker/status"
	"signalbroker/stream"
	"signalbroker/token"
	"signalbroker/view"
)

const noAudit = api.AllRights - api.RightAudit

func agency(secret string, sessions, rights int) api.Agency {
	return api.Agency{Secret: []byte(secret), Rights: rights, Class: 3, Limits: []int{2, 2, 2, 2}, Requests: 3, Sessions: sessions, Rate: 2, Burst: 9}
}

func phase(ring int) api.Phase {
	return api.Phase{Ring: ring, MinGreen: 2, MaxGreen: 3, Yellow: 1, Red: 1}
}

// config has the sessions 0 and 1 of agency 0, 2 of agency 1, and 3 and 4 of agency 2, which may audit.
func config() api.Config {
	return api.Config{
		Junctions: []api.Junction{
			{Phases: []api.Phase{phase(0), phase(0)}, Conflicts: []int{2, 1}},
			{Phases: []api.Phase{phase(0), phase(1), phase(0)}, Conflicts: []int{4, 4, 3}, Start: 1},
		},
		Agencies: []api.Agency{agency("12345678", 2, noAudit), agency("abcdefgh", 1, noAudit), agency("ABCDEFGH", 2, 63)},
		Period:   4, Cap: 3, Hold: 2, Lockout: 3,
	}
}

func owner(session int) int { return []int{0, 0, 1, 2, 2}[session] }

// order is the frame of a message with the first token of an agency.
func order(agency, kind int, args ...int) []byte {
	a := config().Agencies[agency]
	f, code := message.Frame(api.Message{Kind: kind, Token: token.Bytes(agency, 0, a.Secret), Args: args})
	if code != api.OK {
		panic(fmt.Sprint("no message: ", kind, args))
	}
	return f
}

func join(l ...[]byte) []byte { return bytes.Join(l, nil) }

func open(s int) api.Event            { return api.Event{Kind: api.EvOpen, Session: s} }
func drop(s int) api.Event            { return api.Event{Kind: api.EvDrop, Session: s} }
func send(s int, b ...byte) api.Event { return api.Event{Kind: api.EvBytes, Session: s, Bytes: b} }
func draw(a int, b ...byte) api.Event { return api.Event{Kind: api.EvDraw, A: a, Bytes: b} }
func stuck(j, p int) api.Event        { return api.Event{Kind: api.EvStuck, A: j, B: p} }

var tick = api.Event{Kind: api.EvTick}

func expect(t *testing.T, name string, got, want any) {
	t.Helper()
	if fmt.Sprint(got) != fmt.Sprint(want) {
		t.Errorf("%s: %v, not %v", name, got, want)
	}
}

// script returns random events; what the sessions receive are mostly orders of their agencies.
func script(r *rand.Rand) []api.Event {
	var l []api.Event
	for s := range 5 {
		l = append(l, open(s), send(s, join(order(owner(s), 4, 1, 1), order(owner(s), 4, 3, 3))...))
	}
	for range 70 {
		s := r.Intn(5)
		switch r.Intn(14) {
		case 0:
			l = append(l, open(s))
		case 1:
			l = append(l, drop(s))
		case 2:
			l = append(l, draw(r.Intn(4), []byte(fmt.Sprintf("nonce%03d", r.Intn(100)))[:7+r.Intn(2)]...))
		case 3:
			l = append(l, stuck(r.Intn(3), r.Intn(3)))
		case 4:
			l = append(l, send(s, make([]byte, r.Intn(3))...))
		case 5, 6, 7, 8:
			l = append(l, send(s, request(r, owner(s))...))
		default:
			l = append(l, tick)
		}
	}
	return l
}

func request(r *rand.Rand, agency int) []byte {
	small := func() int { return r.Intn(4) }
	switch r.Intn(9) {
	case 0, 1, 2:
		return order(agency, 6, small(), 1+2*r.Intn(2), 5+r.Intn(30), r.Intn(2), r.Intn(3), small(), 4+r.Intn(20))
	case 3:
		return join(order(agency, 7, small(), small(), 4+r.Intn(9)), order(agency, 9))
	case 4:
		return order(agency, 8, small())
	case 5:
		return order(agency, 2, r.Intn(64), small(), r.Intn(9))
	case 6:
		return order(agency, 10, r.Intn(3))
	case 7:
		return order(agency, 11, r.Intn(3))
	}
	return join(order(agency, 1), order(agency, 9), order(agency, 12))
}

func TestMine(t *testing.T) {
	nonce := []byte("nonce001")
	l := []api.Event{
		open(0), open(1), open(2), open(3), open(4), open(5), open(-1), tick,
		send(0, 1), send(1, 2), send(2, 3), send(3), send(5, 1), {Kind: 0}, {Kind: 7, Session: 0},
		draw(0, nonce...), draw(1, 1, 2), draw(2, nonce...), draw(3, nonce...), {Kind: api.EvDraw, Session: 2, A: 0},
		stuck(0, 1), stuck(1, 0), tick, drop(0), drop(2), drop(4), {Kind: api.EvTick, Session: 9, A: 3},
	}
	for a, want := range [][]int{{0, 1, 7, 8, 9, 15, 19, 22, 23, 26}, {2, 7, 10, 16, 22, 24, 26}, {3, 4, 7, 11, 17, 22, 25, 26}} {
		var events []api.Event
		for _, k := range want {
			events = append(events, l[k])
		}
		expect(t, fmt.Sprint("agency ", a), view.Mine(config(), l, a), events)
	}
	expect(t, "nothing", view.Mine(config(), nil, 0), []api.Event{})
	mine := view.Mine(config(), l, 1)
	mine[2].Bytes[0] = 99
	expect(t, "a copy", l[10].Bytes, []byte{3})
}

func TestMineOfLongScripts(t *testing.T) {
	var l []api.Event
	for range 250 {
		l = append(l, send(0, 1), send(2, 2))
	}
	for n, want := range map[int]int{399: 200, 400: 200, 401: 200, 500: 200, 11: 6} {
		if mine := view.Mine(config(), l[:n], 0); len(mine) != want {
			t.Errorf("Mine of %d events: %d", n, len(mine))
		}
	}
	ticks := slices.Repeat([]api.Event{tick}, 500)
	if n := len(view.Mine(config(), ticks, 1)); n != 400 {
		t.Errorf("Mine of ticks: %d", n)
	}
	if n := len(view.Views(config(), ticks)); n != 400 {
		t.Errorf("Views of ticks: %d", n)
	}
}

func TestViews(t *testing.T) {
	r := rand.New(rand.NewSource(1))
	for range 40 {
		l := script(r)
		var want [][]api.View
		b := broker.New(config())
		for _, e := range l {
			next, out, ticked := broker.Do(b, e)
			if b = next; ticked {
				want = append(want, b.City.Views)
				// The public is told the views and nothing else.
				f, _ := message.Frame(status.Feed(len(want), b.City.Views))
				expect(t, "the feed", out.Feed, f)
			}
		}
		expect(t, "Views", view.Views(config(), l), want)
	}
	expect(t, "Views of nothing", view.Views(config(), nil), [][]api.View{})
}

// sent returns what the sessions of an agency are sent by the broker.
func sent(l []api.Event, agency int) [][][]byte {
	var all [][][]byte
	for _, out := range broker.Run(config(), l) {
		var own [][]byte
		for s, b := range out.Sessions {
			if owner(s) == agency {
				own = append(own, b)
			}
		}
		all = append(all, own)
	}
	return all
}

// Isolation: what an agency without api.RightAudit is sent is Replay of Mine and Views.
func TestReplay(t *testing.T) {
	r := rand.New(rand.NewSource(2))
	for range 100 {
		l := script(r)
		views := view.Views(config(), l)
		for a := range 2 {
			mine := view.Mine(config(), l, a)
			kept := fmt.Sprint(mine, views)
			want := sent(l, a)
			expect(t, "Replay", view.Replay(config(), a, mine, views), want)
			expect(t, "the arguments", fmt.Sprint(mine, views), kept)
			expect(t, "Replay of all events", view.Replay(config(), a, l, views), want)
			for n := range views {
				if r.Intn(5) == 0 {
					expect(t, "Replay of less views", view.Replay(config(), a, mine, views[:n]), want[:n])
				}
			}
			more := append(slices.Clone(views), views...)
			expect(t, "Replay of more views", view.Replay(config(), a, mine, more), want)
		}
		// An agency that may audit is sent the same, and the trails.
		var want [][][]byte
		for _, own := range sent(l, 2) {
			var x [][]byte
			for _, b := range own {
				var rest []byte
				for _, it := range stream.All(b) {
					f, _ := frame.Encode(it.Kind, it.Payload)
					if it.Kind != api.KindTrail {
						rest = append(rest, f...)
					}
				}
				x = append(x, rest)
			}
			want = append(want, x)
		}
		expect(t, "Replay of an audit", view.Replay(config(), 2, view.Mine(config(), l, 2), views), want)
	}
}

func TestReplayOfDraws(t *testing.T) {
	l := []api.Event{open(2), draw(1, 1, 2)}
	for k := range 10 {
		l = append(l, draw(1, []byte(fmt.Sprintf("nonce%03d", k))...), draw(0, []byte("another1")...))
	}
	for range 4 {
		l = append(l, send(2, slices.Repeat(order(1, 2, 1, 1, 1), 3)...), tick)
	}
	views := view.Views(config(), l)
	got := view.Replay(config(), 1, view.Mine(config(), l, 1), views)
	expect(t, "Replay", got, sent(l, 1))
	kinds := ""
	for _, own := range got {
		for _, it := range stream.All(own[0]) {
			kinds += fmt.Sprint(it.Kind, " ")
		}
	}
	// The ends come after a tick, so that slots are free again: eight nonces, and no more.
	if n := bytes.Count([]byte(kinds), []byte("16 ")); n != 8 {
		t.Errorf("%d tokens are issued: %s", n, kinds)
	}
}

func TestReplayUsesTheViews(t *testing.T) {
	l := []api.Event{open(0), send(0, join(order(0, 4, 1, 1), order(0, 6, 1, 1, 50, 0, 1, 0, 50))...), tick, tick}
	mine := view.Mine(config(), l, 0)
	views := [][]api.View{
		{{Override: true, Colors: []int{0, 1}, Counts: []int{0, 7}}, {Flash: true, Colors: []int{0, 0, 0}, Counts: []int{0, 0, 0}}},
		{{Colors: []int{2, 1}, Counts: []int{3, 7}}},
	}
	got := view.Replay(config(), 0, mine, views)
	for k, codes := range [][]byte{{3, 0, 0, 0, 0, 0, 0, 0, 0}, {2, 0, 0, 0, 0, 0, 0, 0, 0}} {
		items := stream.All(got[k][0])
		want, _ := message.Encode(status.Message(k+1, views[k], codes))
		expect(t, "the status", items[len(items)-1], api.Item{Kind: api.KindStatus, Payload: want})
		if len(got[k]) != 2 || len(got[k][1]) != 0 {
			t.Errorf("a closed session is sent %v", got[k])
		}
	}
}

func told(kind, now int, data ...byte) []byte {
	f, _ := message.Frame(api.Message{Kind: kind, Args: []int{now}, Data: data})
	return f
}

func raw(version, kind byte, payload ...byte) []byte {
	b := []byte{0x5a, 0xa5, version, kind, 0, byte(len(payload))}
	b = append(b, payload...)
	return binary.BigEndian.AppendUint32(b, crc32.ChecksumIEEE(b[2:]))
}

func TestMasked(t *testing.T) {
	head := func(kind byte, n int) []byte { return []byte{0x5a, 0xa5, 1, kind, 0, byte(n)} }
	ack, _ := message.Frame(api.Message{Kind: api.KindAck, Args: []int{6, 300}})
	issued, _ := message.Frame(api.Message{Kind: api.KindIssued, Args: []int{1}, Data: []byte("0123456789")})
	status7 := join(head(17, 4), []byte{7, 0, 0, 0}, make([]byte, 4))
	feed300 := join(head(21, 5), []byte{0xac, 2, 0, 0, 0}, make([]byte, 4))
	for name, x := range map[string]struct{ b, want []byte }{
		"nothing":              {nil, nil},
		"a status":             {told(17, 7, 1, 2, 3), status7},
		"a feed":               {told(21, 300, 1, 2, 3), feed300},
		"no data":              {told(17, 7), join(head(17, 1), []byte{7, 0, 0, 0, 0})},
		"other frames":         {join(ack, issued), join(ack, issued)},
		"between others":       {join(ack, told(17, 7, 1, 2, 3), issued, told(21, 300, 1, 2, 3), ack), join(ack, status7, issued, feed300, ack)},
		"orders":               {order(0, 9), order(0, 9)},
		"a payload of no form": {join(raw(1, 17), told(17, 7, 1, 2, 3), raw(1, 21, 0x80)), join(raw(1, 17), status7, raw(1, 21, 0x80))},
	} {
		kept := bytes.Clone(x.b)
		got := view.Masked(x.b)
		if !bytes.Equal(got, x.want) || !bytes.Equal(x.b, kept) {
			t.Errorf("%s: %x, not %x", name, got, x.want)
		}
	}
}

func TestMaskedOfOtherBytes(t *testing.T) {
	f := told(17, 7, 1, 2, 3)
	wrong := bytes.Clone(f)
	wrong[7]++
	for name, b := range map[string][]byte{
		"a part":             f[:len(f)-1],
		"a frame and a part": join(f, f[:5]),
		"garbage behind":     join(f, []byte{0}),
		"garbage ahead":      join([]byte{0}, f),
		"a wrong sum":        join(f, wrong),
		"another version":    join(f, raw(2, 17, 1, 2)),
		"another kind":       join(f, raw(1, 23, 1, 2)),
		"masked already":     join(f, view.Masked(f)),
	} {
		got := view.Masked(b)
		if !bytes.Equal(got, b) {
			t.Errorf("%s: %x, not %x", name, got, b)
		}
		got[0]++
		if b[0] == got[0] {
			t.Errorf("%s: it is no copy", name)
		}
	}
}

func TestWithout(t *testing.T) {
	submit, update, cancel, list := order(0, 6, 1, 1, 9, 0, 0, 0, 9), order(0, 7, 1, 1, 9), order(0, 8, 1), order(0, 9)
	wrong := bytes.Clone(submit)
	wrong[9]++
	for name, x := range map[string]struct{ e, want api.Event }{
		"a submit":           {send(0, submit...), send(0)},
		"an update":          {send(1, update...), send(1)},
		"a cancel":           {send(0, cancel...), send(0)},
		"another frame":      {send(0, list...), send(0, list...)},
		"no bytes":           {send(0), send(0)},
		"among others":       {send(0, join(list, submit, list, update, cancel, order(0, 1))...), send(0, join(list, list, order(0, 1))...)},
		"another agency":     {send(2, submit...), send(2, submit...)},
		"the last session":   {send(3, submit...), send(3, submit...)},
		"no session":         {send(5, submit...), send(5, submit...)},
		"a negative session": {send(-1, submit...), send(-1, submit...)},
		"a part":             {send(0, submit[:20]...), send(0, submit[:20]...)},
		"a frame and a part": {send(0, join(submit, list[:3])...), send(0, join(submit, list[:3])...)},
		"garbage":            {send(0, join(submit, []byte{0})...), send(0, join(submit, []byte{0})...)},
		"a wrong sum":        {send(0, join(submit, wrong)...), send(0, join(submit, wrong)...)},
		"another version":    {send(0, join(submit, raw(2, 9))...), send(0, join(submit, raw(2, 9))...)},
		"another kind":       {send(0, join(submit, raw(1, 99))...), send(0, join(submit, raw(1, 99))...)},
		"a kind of any form": {send(0, join(raw(1, 6), raw(1, 9))...), send(0, raw(1, 9)...)},
		"another event":      {api.Event{Kind: api.EvDraw, Session: 0, A: 1, B: 2, Bytes: submit}, api.Event{Kind: api.EvDraw, Session: 0, A: 1, B: 2, Bytes: submit}},
		"a tick with bytes":  {api.Event{Kind: api.EvTick, Bytes: submit}, api.Event{Kind: api.EvTick, Bytes: submit}},
		"open with bytes":    {api.Event{Kind: api.EvOpen, Bytes: submit}, api.Event{Kind: api.EvOpen, Bytes: submit}},
	} {
		kept := fmt.Sprint(x.e)
		got := view.Without(config(), []api.Event{tick, x.e, open(0)}, 0)
		expect(t, name, got, []api.Event{tick, x.want, open(0)})
		for _, e := range got {
			if len(e.Bytes) > 0 {
				e.Bytes[0]++
			}
		}
		expect(t, name+": the argument", x.e, kept)
	}
	long := slices.Repeat([]api.Event{send(0, submit...)}, 450)
	expect(t, "all of a long script", view.Without(config(), long, 0), slices.Repeat([]api.Event{send(0)}, 450))
}

// Deleting another agency's requests leaves what an agency is sent as it is, but for the record, the codes, and the check sums.
func TestIsolation(t *testing.T) {
	r := rand.New(rand.NewSource(3))
	different := 0
	for range 100 {
		l := script(r)
		other := r.Intn(3)
		less := view.Without(config(), l, other)
		same := fmt.Sprint(view.Views(config(), l)) == fmt.Sprint(view.Views(config(), less))
		if !same {
			different++
		}
		for a := range 2 {
			if a == other {
				continue
			}
			expect(t, "Mine", view.Mine(config(), less, a), view.Mine(config(), l, a))
			x, y := sent(l, a), sent(less, a)
			if same {
				expect(t, "what is sent with the same views", x, y)
			}
			for k := range x {
				for s := range x[k] {
					if !bytes.Equal(view.Masked(x[k][s]), view.Masked(y[k][s])) {
						t.Fatalf("tick %d: session %d of agency %d is sent %x and %x", k, s, a, x[k][s], y[k][s])
					}
				}
			}
		}
	}
	if different == 0 {
		t.Error("the requests never matter")
	}
}

// The views can be read from the public feed.
func TestFeedTellsTheViews(t *testing.T) {
	l := script(rand.New(rand.NewSource(4)))
	views := view.Views(config(), l)
	for k, out := range broker.Run(config(), l) {
		it := stream.All(out.Feed)[0]
		m, _ := message.Decode(it.Kind, it.Payload)
		got, code := record.Parse(m.Data, []int{2, 3})
		expect(t, "the views", got, views[k])
		if code != api.OK || m.Args[0] != k+1 {
			t.Errorf("tick %d: %d, %v", k, code, m.Args)
		}
	}
}
