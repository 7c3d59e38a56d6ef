package desk

import (
	"signalbroker/api"
	"signalbroker/message"
	"signalbroker/registry"
	"signalbroker/request"
	"signalbroker/window"
)

// order is a message whose token was examined.
type order struct {
	cfg                api.Config
	m                  api.Message
	session, slot, now int
}

// open returns the order of an item. The desk is charged for it.
func open(d *api.Desk, it api.Item, now int) (order, api.Errno) {
	if it.Code != api.OK {
		return order{}, it.Code
	}
	if !message.ForServer(it.Kind) {
		return order{}, api.ErrKind
	}
	m, code := message.Decode(it.Kind, it.Payload)
	if code != api.OK {
		return order{}, api.ErrForm
	}
	r, slot, code := registry.Open(d.Registry, m, now)
	if code != api.OK {
		return order{}, code
	}
	d.Registry = r
	return order{m: m, slot: slot, now: now}, api.OK
}

// carryOut carries the order out and returns the reply. With an error the desk stays as it is.
func (o order) carryOut(d *api.Desk) (api.Message, api.Errno) {
	code := api.OK
	switch o.m.Kind {
	case api.KindHello:
		return api.Message{Kind: api.KindWelcome, Args: []int{d.Registry.Number, o.now}}, api.OK
	case api.KindList:
		return holding(d.Requests), api.OK
	case api.KindBudget:
		return left(*d), api.OK
	case api.KindDerive, api.KindRevoke, api.KindRegister, api.KindRemove:
		return o.register(d)
	case api.KindSubmit:
		code = o.submit(d)
	case api.KindUpdate:
		code = o.update(d)
	case api.KindCancel:
		code = o.cancel(d)
	case api.KindAudit:
		code = o.audit(d)
	case api.KindReset:
		code = o.reset()
	}
	if code != api.OK {
		return api.Message{}, code
	}
	return api.Message{Kind: api.KindAck, Args: []int{o.m.Kind, o.m.Args[0]}}, api.OK
}

// register carries out what the registry does.
func (o order) register(d *api.Desk) (api.Message, api.Errno) {
	var secret []byte
	if len(d.Draws) > 0 {
		secret = d.Draws[0]
	}
	r, reply, used, code := registry.Do(d.Registry, o.m, o.slot, o.now, secret)
	if code != api.OK {
		return api.Message{}, code
	}
	d.Registry = r
	if used {
		d.Draws = d.Draws[1:]
	}
	if o.m.Kind == api.KindRemove {
		d.Requests = request.Without(d.Requests, o.m.Args[0])
	}
	return reply, api.OK
}

// submit carries out KindSubmit: id, vehicle, life, and for each leg junction, phase, from, to.
func (o order) submit(d *api.Desk) api.Errno {
	args := o.m.Args
	v, ok := vehicle(d.Registry.Vehicles, args[1])
	if !ok {
		return api.ErrNone
	}
	if v.Class > d.Registry.Tokens[o.slot].Class {
		return api.ErrClass
	}
	legs, code := o.legs(args[3:])
	if code != api.OK {
		return code
	}
	l, code := request.Submit(d.Requests, d.Registry.Agency.Requests, args[0], v, args[2], legs, o.now)
	if code != api.OK {
		return code
	}
	d.Requests = l
	return api.OK
}

// legs returns the legs of a request at junctions and phases of the configuration.
func (o order) legs(args []int) ([]api.Leg, api.Errno) {
	var l []api.Leg
	for ; len(args) > 0; args = args[4:] {
		junction, phase := args[0], args[1]
		if junction >= len(o.cfg.Junctions) || phase >= len(o.cfg.Junctions[junction].Phases) {
			return nil, api.ErrRange
		}
		leg, code := window.Make(junction, phase, args[2], args[3], o.now)
		if code != api.OK {
			return nil, code
		}
		l = append(l, leg)
	}
	return l, api.OK
}

// update carries out KindUpdate: id, and for each leg from, to.
func (o order) update(d *api.Desk) api.Errno {
	var windows [][2]int
	for args := o.m.Args[1:]; len(args) > 0; args = args[2:] {
		windows = append(windows, [2]int{args[0], args[1]})
	}
	l, code := request.Update(d.Requests, o.m.Args[0], windows, o.now)
	if code != api.OK {
		return code
	}
	d.Requests = l
	return api.OK
}

// cancel carries out KindCancel: id.
func (o order) cancel(d *api.Desk) api.Errno {
	l, code := request.Cancel(d.Requests, o.m.Args[0])
	if code != api.OK {
		return code
	}
	d.Requests = l
	return api.OK
}

// audit carries out KindAudit: 1 begins, 0 ends.
func (o order) audit(d *api.Desk) api.Errno {
	if o.m.Args[0] > 1 {
		return api.ErrRange
	}
	if 0 <= o.session && o.session < len(d.Audit) {
		d.Audit[o.session] = o.m.Args[0] == 1
	}
	return api.OK
}

// reset examines KindReset: junction. The junction itself does not belong to the desk.
func (o order) reset() api.Errno {
	if o.m.Args[0] >= len(o.cfg.Junctions) {
		return api.ErrRange
	}
	return api.OK
}

// vehicle returns the registered vehicle with an ID.
func vehicle(l []api.Vehicle, id int) (api.Vehicle, bool) {
	for _, v := range l {
		if v.ID == id {
			return v, true
		}
	}
	return api.Vehicle{}, false
}

// holding lists the requests.
func holding(l []api.Request) api.Message {
	m := api.Message{Kind: api.KindHolding}
	for _, r := range l {
		m.Args = append(m.Args, r.ID, r.Until)
	}
	return m
}

// left tells what the agency may still use.
func left(d api.Desk) api.Message {
	free := 0
	for _, t := range d.Registry.Tokens {
		if !t.Used {
			free++
		}
	}
	return api.Message{Kind: api.KindLeft, Args: []int{
		free,
		api.MaxVehicles - len(d.Registry.Vehicles),
		d.Registry.Agency.Requests - len(d.Requests),
		d.Registry.Bucket.Level,
	}}
}
