package laws

import (
	"reflect"

	"signalbroker/api"
	"signalbroker/message"
)

// sensible returns a value of the type t that the layers accept, for some types.
func (m *maker) sensible(t reflect.Type) (any, bool) {
	switch t {
	case reflect.TypeFor[[]byte]():
		return m.frames(), true
	case reflect.TypeFor[api.Message]():
		return m.message(), true
	case reflect.TypeFor[api.Junction]():
		return m.junction(), true
	case reflect.TypeFor[api.Agency]():
		return m.agency(), true
	case reflect.TypeFor[api.Control]():
		return m.control(), true
	case reflect.TypeFor[api.Signal]():
		return api.Signal{Control: m.control(), Latched: m.r.Intn(4) == 0}, true
	case reflect.TypeFor[[]api.Token]():
		return m.tokens(), true
	case reflect.TypeFor[[]api.Vehicle]():
		return m.vehicles(), true
	case reflect.TypeFor[api.Registry]():
		return m.registry(), true
	case reflect.TypeFor[[]api.Request]():
		return m.requests(), true
	case reflect.TypeFor[api.Service]():
		return m.service(), true
	case reflect.TypeFor[[]api.Claim]():
		return m.claims(), true
	case reflect.TypeFor[api.Session]():
		return api.Session{Open: m.r.Intn(4) > 0, Dropped: m.r.Intn(3) == 0, Stream: api.Stream{Buffer: m.frames()}}, true
	case reflect.TypeFor[api.Item]():
		return m.item(), true
	case reflect.TypeFor[api.Desk]():
		return m.desk(), true
	case reflect.TypeFor[api.City]():
		return m.city(), true
	case reflect.TypeFor[[]api.Input]():
		return m.inputs(), true
	case reflect.TypeFor[api.Broker]():
		return m.broker(), true
	case reflect.TypeFor[[]api.Event]():
		return m.script(), true
	case reflect.TypeFor[api.Config]():
		return m.config(), true
	}
	return nil, false
}

// message returns a message, mostly a valid one, with a token of one of the first slots of an agency, if it has one.
func (m *maker) message() api.Message {
	x := m.anyMessage()
	for range 20 {
		if message.Valid(x) {
			break
		}
		x = m.anyMessage()
	}
	return x
}

func (m *maker) anyMessage() api.Message {
	x := api.Message{Kind: m.r.Intn(24)}
	if message.ForServer(x.Kind) {
		x.Token = append([]byte{byte(m.r.Intn(2)), byte(m.r.Intn(2))}, secret...)
	}
	for range m.r.Intn(9) {
		x.Args = append(x.Args, m.r.Intn(5))
	}
	if x.Kind > api.KindLeft || m.r.Intn(3) == 0 {
		x.Data = make([]byte, m.r.Intn(11))
	}
	return x
}

// item returns what a frame contains.
func (m *maker) item() api.Item {
	x := m.message()
	payload, _ := message.Encode(x)
	return api.Item{Kind: x.Kind, Payload: payload}
}

func (m *maker) inputs() []api.Input {
	l := []api.Input{}
	for range m.r.Intn(5) {
		x := api.Input{Open: m.r.Intn(5) > 0}
		for range m.r.Intn(4) {
			x.Items = append(x.Items, m.item())
		}
		l = append(l, x)
	}
	return l
}

// script returns the events of a script.
func (m *maker) script() []api.Event {
	l := []api.Event{}
	for range m.r.Intn(30) {
		e := api.Event{Kind: 1 + m.r.Intn(7), Session: m.r.Intn(4), A: m.r.Intn(3), B: m.r.Intn(3)}
		if e.Kind == api.EvBytes {
			e.Bytes = m.frames()
		}
		if e.Kind == api.EvDraw {
			e.Bytes = []byte(secret)
		}
		l = append(l, e)
	}
	return l
}

// frames returns the frames of some messages, perhaps with noise.
func (m *maker) frames() []byte {
	b := []byte{}
	for range m.r.Intn(6) {
		f, _ := message.Frame(m.message())
		b = append(b, f...)
		if m.r.Intn(8) == 0 {
			b = append(b, byte(m.r.Intn(256)))
		}
	}
	return b
}
