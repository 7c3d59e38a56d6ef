package laws

import (
	"math/rand"
	"reflect"
	"testing"

	"signalbroker/api"
	"signalbroker/broker"
	"signalbroker/desk"
	"signalbroker/message"
	"signalbroker/registry"
	"signalbroker/request"
	"signalbroker/token"
	"signalbroker/vehicle"
)

// holdCall checks the rules for a call with arguments that are accepted.
func holdCall(t *testing.T, name string, f any, args ...any) {
	t.Helper()
	var l []reflect.Value
	for _, a := range args {
		v := reflect.New(reflect.TypeOf(a)).Elem()
		v.Set(reflect.ValueOf(a))
		l = append(l, v)
	}
	hold(t, name, reflect.ValueOf(f), l)
}

// wealthy returns a configuration, and a desk of it that may do everything.
func wealthy() (api.Config, api.Desk) {
	m := &maker{r: rand.New(rand.NewSource(8))}
	cfg := m.config()
	cfg.Agencies[0] = api.Agency{Secret: []byte(secret), Rights: api.AllRights, Class: api.Fire, Limits: []int{8, 8, 8, 8}, Requests: 4, Sessions: 2, Rate: 5, Burst: 50}
	d := desk.New(0, cfg.Agencies[0])
	d.Registry.Tokens, _, _ = token.Derive(d.Registry.Tokens, 0, 63, 3, 0, []byte("abcdefgh"), 1)
	d.Registry.Vehicles = []api.Vehicle{{ID: 1}, {ID: 2, Class: 3}}
	legs := []api.Leg{{To: 50, Since: -1}}
	d.Requests, _ = request.Submit(nil, 4, 5, api.Vehicle{ID: 1}, 60, legs, 1)
	d.Requests, _ = request.Submit(d.Requests, 4, 7, api.Vehicle{ID: 2, Class: 3}, 60, legs, 1)
	d.Draws = [][]byte{[]byte("nonce001"), []byte("nonce002")}
	return cfg, d
}

func orders() []api.Message {
	var l []api.Message
	for kind, args := range map[int][]int{
		api.KindHello: nil, api.KindDerive: {1, 1, 1}, api.KindRevoke: {1}, api.KindRegister: {3, 1}, api.KindRemove: {1},
		api.KindSubmit: {6, 1, 9, 0, 0, 1, 2}, api.KindUpdate: {5, 1, 2}, api.KindCancel: {5}, api.KindList: nil,
		api.KindAudit: {1}, api.KindReset: {0}, api.KindBudget: nil,
	} {
		l = append(l, api.Message{Kind: kind, Token: append([]byte{0, 0}, secret...), Args: args})
	}
	return l
}

func TestLawsOfAcceptedCalls(t *testing.T) {
	cfg, d := wealthy()
	nonce, legs := []byte("nonce003"), []api.Leg{{Junction: 1, Since: -1}}
	holdCall(t, "token.Derive", token.Derive, d.Registry.Tokens, 0, 5, 1, 9, nonce, 3)
	holdCall(t, "token.Revoke", token.Revoke, d.Registry.Tokens, 1)
	holdCall(t, "vehicle.Register", vehicle.Register, d.Registry.Vehicles, cfg.Agencies[0], api.Vehicle{ID: 3})
	holdCall(t, "vehicle.Remove", vehicle.Remove, d.Registry.Vehicles, 1)
	holdCall(t, "request.Find", request.Find, d.Requests, 5)
	holdCall(t, "request.Submit", request.Submit, d.Requests, 4, 6, api.Vehicle{ID: 1}, 9, legs, 3)
	holdCall(t, "request.Update", request.Update, d.Requests, 5, [][2]int{{1, 2}}, 3)
	holdCall(t, "request.Cancel", request.Cancel, d.Requests, 5)
	for _, m := range orders() {
		payload, _ := message.Encode(m)
		it := api.Item{Kind: m.Kind, Payload: payload}
		in := []api.Input{{Open: true, Items: []api.Item{it}}, {Open: true, Items: []api.Item{it}}}
		holdCall(t, "message.Decode", message.Decode, m.Kind, payload)
		holdCall(t, "registry.Open", registry.Open, d.Registry, m, 3)
		holdCall(t, "registry.Do", registry.Do, d.Registry, m, 0, 3, nonce)
		holdCall(t, "desk.Handle", desk.Handle, cfg, d, 0, it, 3)
		holdCall(t, "desk.Tick", desk.Tick, cfg, d, in, 3)
		if _, reply, _, _ := desk.Handle(cfg, d, 0, it, 3); reply.Kind == api.KindFault {
			t.Errorf("the order %v is a fault: %v", m, reply)
		}
	}
	b := broker.New(cfg)
	b.City.Desks[0] = d
	for _, e := range []api.Event{
		{Kind: api.EvOpen}, {Kind: api.EvBytes, Bytes: nonce}, {Kind: api.EvDraw, Bytes: nonce}, {Kind: api.EvStuck}, {Kind: api.EvTick}, {Kind: api.EvDrop},
	} {
		holdCall(t, "broker.Do", broker.Do, b, e)
		b, _, _ = broker.Do(b, e)
	}
}
