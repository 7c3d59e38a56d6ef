package inbox_test

import (
	"bytes"
	"fmt"
	"math/rand"
	"testing"

	"signalbroker/api"
	"signalbroker/frame"
	"signalbroker/inbox"
	"signalbroker/stream"
)

func expect(t *testing.T, name string, got, want any) {
	t.Helper()
	if fmt.Sprint(got) != fmt.Sprint(want) {
		t.Errorf("%s: %v, not %v", name, got, want)
	}
}

func session(dropped bool, b ...byte) api.Session {
	return api.Session{Open: true, Dropped: dropped, Stream: api.Stream{Buffer: b, Garbage: true}}
}

func list(n int) []byte {
	f, _ := frame.Encode(api.KindList, []byte{byte(n)})
	return f
}

func item(n int) api.Item { return api.Item{Kind: api.KindList, Payload: []byte{byte(n)}} }

func TestOpenAndDrop(t *testing.T) {
	expect(t, "a new session", inbox.Open(api.Session{}), api.Session{Open: true})
	closed := session(false, 1, 2, 3)
	closed.Open = false
	expect(t, "a closed session", inbox.Open(closed), api.Session{Open: true})
	for _, dropped := range []bool{false, true} {
		expect(t, "an open session", inbox.Open(session(dropped, 1, 2, 3)), session(dropped, 1, 2, 3))
		expect(t, "Drop", inbox.Drop(session(dropped, 1, 2, 3)), api.Session{})
	}
	expect(t, "Drop of a closed session", inbox.Drop(api.Session{}), api.Session{})
}

func TestReceive(t *testing.T) {
	long := make([]byte, 300)
	rand.New(rand.NewSource(1)).Read(long)
	for _, dropped := range []bool{false, true} {
		expect(t, "some bytes", inbox.Receive(session(dropped, 1, 2), []byte{3, 4}), session(dropped, 1, 2, 3, 4))
		expect(t, "no bytes", inbox.Receive(session(dropped, 1, 2), nil), session(dropped, 1, 2))
		expect(t, "as many as fit", inbox.Receive(session(dropped), long[:256]), session(dropped, long[:256]...))
		expect(t, "one too many", inbox.Receive(session(dropped), long[:257]), session(true, long[:256]...))
		expect(t, "too many", inbox.Receive(session(dropped, long[:200]...), long[200:]), session(true, long[:256]...))
		expect(t, "into a full one", inbox.Receive(session(dropped, long[:256]...), []byte{1}), session(true, long[:256]...))
		expect(t, "nothing into a full one", inbox.Receive(session(dropped, long[:256]...), nil), session(dropped, long[:256]...))
	}
	expect(t, "a closed session", inbox.Receive(api.Session{}, []byte{1, 2}), api.Session{})
	expect(t, "a closed session and many bytes", inbox.Receive(api.Session{}, long), api.Session{})
	closed := api.Session{Stream: api.Stream{Buffer: []byte{5}}}
	expect(t, "a closed session with bytes", inbox.Receive(closed, []byte{1, 2}), closed)
}

func TestTake(t *testing.T) {
	s, in := inbox.Take(api.Session{})
	expect(t, "a closed session", s, api.Session{})
	expect(t, "a closed session", in, api.Input{})
	closed := api.Session{Stream: api.Stream{Buffer: list(1)}}
	_, in = inbox.Take(closed)
	expect(t, "a closed session with a frame", in, api.Input{})
	_, in = inbox.Take(api.Session{Dropped: true})
	expect(t, "a closed session that dropped", in, api.Input{})

	s, in = inbox.Take(api.Session{Open: true})
	expect(t, "nothing", s, api.Session{Open: true})
	expect(t, "nothing", in, api.Input{Open: true})

	var six []byte
	for n := range 6 {
		six = append(six, list(n)...)
	}
	rest := append(append([]byte{}, list(4)...), list(5)...)
	s, in = inbox.Take(api.Session{Open: true, Stream: api.Stream{Buffer: six}})
	expect(t, "four of six", s, api.Session{Open: true, Stream: api.Stream{Buffer: rest}})
	expect(t, "four of six", in, api.Input{Open: true, Items: []api.Item{item(0), item(1), item(2), item(3)}})
	s, in = inbox.Take(s)
	expect(t, "the others", s, api.Session{Open: true})
	expect(t, "the others", in, api.Input{Open: true, Items: []api.Item{item(4), item(5)}})

	s, in = inbox.Take(session(true, six...))
	expect(t, "dropped", s, api.Session{Open: true, Stream: api.Stream{Buffer: rest}})
	expect(t, "dropped", in, api.Input{Open: true, Items: []api.Item{{Code: api.ErrInbox}, item(0), item(1), item(2), item(3)}})
	s, in = inbox.Take(session(true))
	expect(t, "dropped and empty", s, session(false))
	expect(t, "dropped and empty", in, api.Input{Open: true, Items: []api.Item{{Code: api.ErrInbox}}})
	_, in = inbox.Take(s)
	expect(t, "told once", in, api.Input{Open: true})
}

func TestTakeIsThatOfTheStream(t *testing.T) {
	r := rand.New(rand.NewSource(2))
	for range 500 {
		var b []byte
		for range r.Intn(8) {
			b = append(b, list(r.Intn(9))...)
			b = append(b, make([]byte, r.Intn(3))...)
		}
		s := session(r.Intn(2) == 0, b...)
		want := s
		var items []api.Item
		want.Stream, items = stream.Take(s.Stream, 4)
		want.Dropped = false
		if s.Dropped {
			items = append([]api.Item{{Code: api.ErrInbox}}, items...)
		}
		got, in := inbox.Take(s)
		expect(t, "the session", got, want)
		expect(t, "the input", in, api.Input{Open: true, Items: items})
	}
}

func TestExample(t *testing.T) {
	s := inbox.Receive(inbox.Open(api.Session{}), bytes.Repeat([]byte{7}, 300))
	if len(s.Stream.Buffer) != 256 {
		t.Errorf("%d bytes are kept", len(s.Stream.Buffer))
	}
	_, in := inbox.Take(s)
	expect(t, "the input", in.Items, []api.Item{{Code: api.ErrInbox}, {Code: api.ErrMagic}})
}
