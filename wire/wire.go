// Package wire contains what the layers broker and view share: the events of a session, and the frames of messages.
package wire

import (
	"signalbroker/api"
	"signalbroker/inbox"
	"signalbroker/message"
)

// Hear carries out an event of a session.
func Hear(s api.Session, e api.Event) api.Session {
	switch e.Kind {
	case api.EvOpen:
		return inbox.Open(s)
	case api.EvDrop:
		return inbox.Drop(s)
	}
	return inbox.Receive(s, e.Bytes)
}

// Listen takes what the sessions have received for a tick.
func Listen(sessions []api.Session) ([]api.Session, []api.Input) {
	rest, in := make([]api.Session, len(sessions)), make([]api.Input, len(sessions))
	for k, s := range sessions {
		rest[k], in[k] = inbox.Take(s)
	}
	return rest, in
}

// Frames returns the frames of messages, one after the other. A message that is not valid has none.
func Frames(l []api.Message) []byte {
	var b []byte
	for _, m := range l {
		f, _ := message.Frame(m)
		b = append(b, f...)
	}
	return b
}
