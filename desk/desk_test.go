package desk_test

import (
	"fmt"
	"math"
	"testing"

	"signalbroker/api"
	"signalbroker/desk"
	"signalbroker/message"
	"signalbroker/registry"
	"signalbroker/request"
	"signalbroker/status"
	"signalbroker/token"
)

func agency() api.Agency {
	return api.Agency{Secret: []byte("12345678"), Rights: 63, Class: 3, Limits: []int{2, 2, 2, 2}, Requests: 3, Sessions: 2, Rate: 1, Burst: 9}
}

// config has junctions with two phases and one.
func config() api.Config {
	p := api.Phase{MinGreen: 2, MaxGreen: 3, Yellow: 1, Red: 1}
	return api.Config{
		Junctions: []api.Junction{
			{Phases: []api.Phase{p, p}, Conflicts: []int{2, 1}},
			{Phases: []api.Phase{p}, Conflicts: []int{0}},
		},
		Agencies: []api.Agency{agency(), agency()},
		Period:   5, Cap: 3, Hold: 2, Lockout: 3,
	}
}

func leg(junction, phase, from, to, since int) api.Leg {
	return api.Leg{Junction: junction, Phase: phase, From: from, To: to, Since: since}
}

// busy is a desk with tokens in the slots 0 to 2, vehicles of the classes 0, 1 and 3, two requests and two draws.
func busy() api.Desk {
	d := desk.New(1, agency())
	d.Registry.Tokens[1] = api.Token{Used: true, Secret: []byte("abcdefgh"), Rights: 3, Class: 1, Until: 100}
	d.Registry.Tokens[2] = api.Token{Used: true, Secret: []byte("ABCDEFGH"), Parent: 1, Rights: 0, Class: 0, Until: 50}
	d.Registry.Vehicles = []api.Vehicle{{ID: 5, Class: 0}, {ID: 6, Class: 1}, {ID: 7, Class: 3}}
	d.Requests = []api.Request{
		{ID: 2, Vehicle: 5, Class: 0, Until: 40, Legs: []api.Leg{leg(0, 1, 20, 30, -1), leg(1, 0, 5, 30, 9)}},
		{ID: 4, Vehicle: 7, Class: 3, Until: 60, Legs: []api.Leg{leg(1, 0, 5, 8, 5)}},
	}
	d.Draws = [][]byte{[]byte("nonce001"), []byte("nonce002")}
	return d
}

// item is a frame with the token of a slot.
func item(slot, kind int, args ...int) api.Item {
	t := busy().Registry.Tokens[slot]
	payload, code := message.Encode(api.Message{Kind: kind, Token: token.Bytes(1, slot, t.Secret), Args: args})
	if code != api.OK {
		panic(fmt.Sprint("no message: ", kind, args))
	}
	return api.Item{Kind: kind, Payload: payload}
}

func expect(t *testing.T, name string, got, want any) {
	t.Helper()
	if fmt.Sprint(got) != fmt.Sprint(want) {
		t.Errorf("%s: %v, not %v", name, got, want)
	}
}

func reply(kind int, args ...int) api.Message { return api.Message{Kind: kind, Args: args} }

func fault(kind int, code api.Errno) api.Message { return reply(api.KindFault, kind, int(code)) }

// expectHandle deals with an item at the tick 10 in session 0, and expects a reply, and the desk with a change.
func expectHandle(t *testing.T, name string, d api.Desk, it api.Item, taken int, change func(d *api.Desk), want api.Message) {
	t.Helper()
	kept := fmt.Sprint(d)
	got, m, e, reset := desk.Handle(config(), d, 0, it, 10)
	expect(t, name+": the argument", d, kept)
	expect(t, name+": the reply", m, want)
	code := api.OK
	if want.Kind == api.KindFault {
		code = api.Errno(want.Args[1])
	}
	expect(t, name+": the entry", e, api.Entry{Agency: 1, Kind: it.Kind, Code: code})
	if want.Kind == api.KindAck && want.Args[0] == api.KindReset {
		expect(t, name+": the reset", reset, want.Args[1])
	} else {
		expect(t, name+": the reset", reset, -1)
	}
	d.Registry.Bucket.Level -= taken
	if change != nil {
		change(&d)
	}
	expect(t, name+": the desk", got, d)
}

// expectFault deals with an item that changes nothing but the rate budget.
func expectFault(t *testing.T, name string, d api.Desk, it api.Item, taken int, code api.Errno) {
	t.Helper()
	expectHandle(t, name, d, it, taken, nil, fault(it.Kind, code))
}

func TestNew(t *testing.T) {
	for sessions := 1; sessions <= 2; sessions++ {
		a := agency()
		a.Sessions = sessions
		d := desk.New(2, a)
		expect(t, "New", d, api.Desk{Registry: registry.New(2, a), Audit: make([]bool, sessions)})
		d.Registry.Agency.Secret[0] = 0
		expect(t, "the argument", a.Secret, agency().Secret)
	}
	for _, n := range []int{-1, math.MinInt} {
		desk.New(0, api.Agency{Sessions: n})
	}
}

func TestItemsThatAreNoFrames(t *testing.T) {
	for code := api.Errno(1); code < 20; code++ {
		it := api.Item{Code: code}
		expectFault(t, "a code", busy(), it, 0, code)
		it = item(0, api.KindSubmit, 3, 6, 20, 0, 1, 2, 3)
		it.Code = code
		expectFault(t, "a code with a kind", busy(), it, 0, code)
	}
}

func TestKindsAndForms(t *testing.T) {
	for _, kind := range []int{-5, 0, 13, 14, 17, 22, 23, 255} {
		expectFault(t, "another kind", busy(), api.Item{Kind: kind, Payload: []byte{1, 2}}, 0, api.ErrKind)
	}
	for kind := 1; kind <= 12; kind++ {
		expectFault(t, "no payload", busy(), api.Item{Kind: kind}, 0, api.ErrForm)
		expectFault(t, "a short payload", busy(), api.Item{Kind: kind, Payload: make([]byte, 9)}, 0, api.ErrForm)
	}
	long := item(0, api.KindHello)
	long.Payload = append(long.Payload, 0)
	expectFault(t, "a long payload", busy(), long, 0, api.ErrForm)
	long = item(2, api.KindSubmit, 3, 6, 20, 0, 1, 2, 3)
	long.Payload = append(long.Payload, 0)
	expectFault(t, "ErrForm ahead of ErrDenied", busy(), long, 0, api.ErrForm)
}

func TestTokensAndBudget(t *testing.T) {
	other := item(0, api.KindHello)
	other.Payload[0] = 0
	expectFault(t, "another agency", busy(), other, 0, api.ErrDenied)
	other = item(0, api.KindHello)
	other.Payload[9]++
	expectFault(t, "another secret", busy(), other, 0, api.ErrDenied)
	expectFault(t, "without the right", busy(), item(2, api.KindCancel, 2), 0, api.ErrDenied)
	expectFault(t, "without the right for an audit", busy(), item(1, api.KindAudit, 1), 0, api.ErrDenied)
	late, _, _, _ := desk.Handle(config(), busy(), 0, item(2, api.KindHello), 51)
	expect(t, "an expired token", late, busy())
	empty := busy()
	empty.Registry.Bucket.Level = 0
	for _, it := range []api.Item{item(0, 2, 1, 1, 1), item(0, 3, 1), item(0, 4, 9, 1), item(0, 5, 5), item(0, 6, 3, 6, 20, 0, 1, 2, 3), item(0, 7, 2, 1, 2), item(0, 8, 2)} {
		expectFault(t, "an empty bucket", empty, it, 0, api.ErrRate)
	}
	expectHandle(t, "an empty bucket and Hello", empty, item(0, api.KindHello), 0, nil, reply(api.KindWelcome, 1, 10))
	expectFault(t, "an empty bucket and Reset", empty, item(0, api.KindReset, 2), 0, api.ErrRange)
}

func TestHello(t *testing.T) {
	for slot := range 3 {
		expectHandle(t, "Hello", busy(), item(slot, api.KindHello), 0, nil, reply(api.KindWelcome, 1, 10))
	}
}

func TestRegistryOrders(t *testing.T) {
	issued := reply(api.KindIssued, 3)
	issued.Data = token.Bytes(1, 3, []byte("nonce001"))
	expectHandle(t, "Derive", busy(), item(0, api.KindDerive, 7, 2, 60), 1, func(d *api.Desk) {
		d.Registry.Tokens[3] = api.Token{Used: true, Secret: []byte("nonce001"), Rights: 7, Class: 2, Until: 70}
		d.Draws = d.Draws[1:]
	}, issued)
	expectFault(t, "Derive that fails", busy(), item(0, api.KindDerive, 64, 2, 60), 1, api.ErrRange)
	single := busy()
	single.Draws = single.Draws[:1]
	expectHandle(t, "Derive with the last draw", single, item(0, api.KindDerive, 7, 2, 60), 1, func(d *api.Desk) {
		d.Registry.Tokens[3] = api.Token{Used: true, Secret: []byte("nonce001"), Rights: 7, Class: 2, Until: 70}
		d.Draws = nil
	}, issued)
	poor := busy()
	poor.Draws = nil
	expectFault(t, "Derive without a draw", poor, item(0, api.KindDerive, 7, 2, 60), 1, api.ErrDraw)
	expectFault(t, "Derive that fails without a draw", poor, item(0, api.KindDerive, 7, 4, 60), 1, api.ErrRange)
	free := api.Token{Parent: -1}
	expectHandle(t, "Revoke", busy(), item(0, api.KindRevoke, 1), 1, func(d *api.Desk) {
		d.Registry.Tokens[1], d.Registry.Tokens[2] = free, free
	}, reply(api.KindAck, api.KindRevoke, 1))
	expectFault(t, "Revoke of a free slot", busy(), item(0, api.KindRevoke, 4), 1, api.ErrNone)
	expectHandle(t, "Register", busy(), item(1, api.KindRegister, 9, 1), 1, func(d *api.Desk) {
		d.Registry.Vehicles = append(d.Registry.Vehicles, api.Vehicle{ID: 9, Class: 1})
	}, reply(api.KindAck, api.KindRegister, 9))
	expectFault(t, "Register of a greater class", busy(), item(1, api.KindRegister, 9, 2), 1, api.ErrClass)
	expectFault(t, "Register of one that is there", busy(), item(0, api.KindRegister, 7, 1), 1, api.ErrExists)
}

func TestRemove(t *testing.T) {
	expectHandle(t, "a vehicle with a request", busy(), item(1, api.KindRemove, 5), 1, func(d *api.Desk) {
		d.Registry.Vehicles, d.Requests = d.Registry.Vehicles[1:], d.Requests[1:]
	}, reply(api.KindAck, api.KindRemove, 5))
	expectHandle(t, "a vehicle without a request", busy(), item(1, api.KindRemove, 6), 1, func(d *api.Desk) {
		l := d.Registry.Vehicles
		d.Registry.Vehicles = []api.Vehicle{l[0], l[2]}
	}, reply(api.KindAck, api.KindRemove, 6))
	expectFault(t, "no vehicle", busy(), item(1, api.KindRemove, 8), 1, api.ErrNone)
	orphan := busy()
	orphan.Registry.Vehicles = orphan.Registry.Vehicles[1:]
	expectFault(t, "no vehicle, but a request", orphan, item(1, api.KindRemove, 5), 1, api.ErrNone)
}

func TestSubmit(t *testing.T) {
	put := func(at int, r api.Request) func(d *api.Desk) {
		return func(d *api.Desk) {
			d.Requests = append(append(append([]api.Request{}, d.Requests[:at]...), r), d.Requests[at:]...)
		}
	}
	expectHandle(t, "one leg", busy(), item(0, 6, 3, 7, 20, 0, 1, 2, 5), 1,
		put(1, api.Request{ID: 3, Vehicle: 7, Class: 3, Until: 30, Legs: []api.Leg{leg(0, 1, 12, 15, -1)}}), reply(api.KindAck, 6, 3))
	expectHandle(t, "two legs, live at once", busy(), item(1, 6, 300, 6, 600, 1, 0, 0, 0, 0, 0, 7, 600), 1,
		put(2, api.Request{ID: 300, Vehicle: 6, Class: 1, Until: 610, Legs: []api.Leg{leg(1, 0, 10, 10, -1), leg(0, 0, 17, 610, -1)}}), reply(api.KindAck, 6, 300))
	full := busy()
	full.Requests = append(full.Requests, api.Request{ID: 5, Vehicle: 5, Until: 50, Legs: []api.Leg{leg(1, 0, 50, 80, -1)}})
	expectHandle(t, "as many as the quota", full, item(0, api.KindCancel, 4), 1, func(d *api.Desk) {
		d.Requests = []api.Request{d.Requests[0], d.Requests[2]}
	}, reply(api.KindAck, api.KindCancel, 4))
	for name, x := range map[string]struct {
		d    api.Desk
		slot int
		args []int
		want api.Errno
	}{
		"no vehicle":                   {busy(), 0, []int{3, 8, 20, 0, 1, 2, 5}, api.ErrNone},
		"no vehicle, ahead of all":     {full, 1, []int{2, 8, 0, 9, 9, 9, 5}, api.ErrNone},
		"a class above the token's":    {busy(), 1, []int{3, 7, 20, 0, 1, 2, 5}, api.ErrClass},
		"ErrClass ahead of ErrRange":   {busy(), 1, []int{3, 7, 20, 2, 1, 2, 5}, api.ErrClass},
		"ErrClass ahead of ErrExists":  {busy(), 1, []int{2, 7, 20, 0, 1, 2, 5}, api.ErrClass},
		"no junction":                  {busy(), 0, []int{3, 7, 20, 2, 0, 2, 5}, api.ErrRange},
		"no junction at all":           {busy(), 0, []int{3, 7, 20, api.MaxNumber, 0, 2, 5}, api.ErrRange},
		"no phase":                     {busy(), 0, []int{3, 7, 20, 0, 2, 2, 5}, api.ErrRange},
		"no phase of the other one":    {busy(), 0, []int{3, 7, 20, 1, 1, 2, 5}, api.ErrRange},
		"no phase in the second leg":   {busy(), 0, []int{3, 7, 20, 0, 1, 2, 5, 1, 1, 2, 5}, api.ErrRange},
		"from after to":                {busy(), 0, []int{3, 7, 20, 0, 1, 6, 5}, api.ErrRange},
		"too far ahead":                {busy(), 0, []int{3, 7, 20, 0, 1, 6, 601}, api.ErrRange},
		"a leg ahead of ErrExists":     {busy(), 0, []int{2, 7, 20, 0, 2, 2, 5}, api.ErrRange},
		"equal junctions":              {busy(), 0, []int{3, 7, 20, 0, 1, 2, 5, 0, 0, 2, 5}, api.ErrRange},
		"life 0":                       {busy(), 0, []int{3, 7, 0, 0, 1, 2, 5}, api.ErrRange},
		"life 601":                     {busy(), 0, []int{3, 7, 601, 0, 1, 2, 5}, api.ErrRange},
		"an ID that is there":          {busy(), 0, []int{4, 7, 20, 0, 1, 2, 5}, api.ErrExists},
		"the quota":                    {full, 0, []int{3, 7, 20, 0, 1, 2, 5}, api.ErrQuota},
		"the quota, behind ErrExists":  {full, 0, []int{5, 7, 20, 0, 1, 2, 5}, api.ErrExists},
		"the quota, behind ErrRange":   {full, 0, []int{3, 7, 0, 0, 1, 2, 5}, api.ErrRange},
		"three legs, two junctions":    {busy(), 0, []int{3, 7, 20, 0, 1, 2, 5, 1, 0, 2, 5, 1, 0, 2, 5}, api.ErrRange},
		"a request of another vehicle": {busy(), 1, []int{2, 6, 20, 0, 1, 2, 5}, api.ErrExists},
	} {
		expectFault(t, name, x.d, item(x.slot, api.KindSubmit, x.args...), 1, x.want)
	}
}

func TestUpdate(t *testing.T) {
	expectHandle(t, "two legs", busy(), item(1, 7, 2, 1, 2, 3, 600), 1, func(d *api.Desk) {
		d.Requests[0].Legs = []api.Leg{leg(0, 1, 11, 12, -1), leg(1, 0, 13, 610, 9)}
	}, reply(api.KindAck, 7, 2))
	expectFault(t, "no request", busy(), item(1, 7, 3, 1, 2), 1, api.ErrNone)
	expectFault(t, "a window less", busy(), item(1, 7, 2, 1, 2), 1, api.ErrRange)
	expectFault(t, "a window more", busy(), item(1, 7, 4, 1, 2, 1, 2), 1, api.ErrRange)
	expectFault(t, "from after to", busy(), item(1, 7, 4, 3, 2), 1, api.ErrRange)
}

func TestCancel(t *testing.T) {
	expectHandle(t, "2", busy(), item(1, 8, 2), 1, func(d *api.Desk) { d.Requests = d.Requests[1:] }, reply(api.KindAck, 8, 2))
	expectHandle(t, "4", busy(), item(1, 8, 4), 1, func(d *api.Desk) { d.Requests = d.Requests[:1] }, reply(api.KindAck, 8, 4))
	expectFault(t, "no request", busy(), item(1, 8, 3), 1, api.ErrNone)
}

func TestListAndBudget(t *testing.T) {
	expectHandle(t, "List", busy(), item(2, 9), 0, nil, reply(api.KindHolding, 2, 40, 4, 60))
	expectHandle(t, "Budget", busy(), item(2, 12), 0, nil, reply(api.KindLeft, 5, 5, 1, 9))
	d := desk.New(1, agency())
	d.Registry.Bucket.Level = 4
	expectHandle(t, "List of nothing", d, item(0, 9), 0, nil, reply(api.KindHolding))
	expectHandle(t, "Budget at first", d, item(0, 12), 0, nil, reply(api.KindLeft, 7, 8, 3, 4))
}

func TestAudit(t *testing.T) {
	for session := range 2 {
		d := busy()
		for _, on := range []int{1, 1, 0, 0, 1} {
			want := d
			want.Audit = append([]bool(nil), d.Audit...)
			want.Audit[session] = on == 1
			got, m, _, _ := desk.Handle(config(), d, session, item(0, api.KindAudit, on), 10)
			expect(t, "the desk", got, want)
			expect(t, "the reply", m, reply(api.KindAck, api.KindAudit, on))
			d = got
		}
	}
	for _, n := range []int{2, 3, 255, api.MaxNumber} {
		expectFault(t, "another argument", busy(), item(0, api.KindAudit, n), 0, api.ErrRange)
		d := busy()
		d.Audit[0] = true
		expectFault(t, "another argument stays", d, item(0, api.KindAudit, n), 0, api.ErrRange)
	}
	for _, session := range []int{-1, 2, math.MinInt, math.MaxInt} {
		got, m, _, _ := desk.Handle(config(), busy(), session, item(0, api.KindAudit, 1), 10)
		expect(t, "no session: the desk", got, busy())
		expect(t, "no session: the reply", m, reply(api.KindAck, api.KindAudit, 1))
	}
}

func TestReset(t *testing.T) {
	for junction := range 2 {
		expectHandle(t, "Reset", busy(), item(0, api.KindReset, junction), 0, nil, reply(api.KindAck, api.KindReset, junction))
	}
	for _, junction := range []int{2, 3, 4, api.MaxNumber} {
		expectFault(t, "no junction", busy(), item(0, api.KindReset, junction), 0, api.ErrRange)
	}
	expectFault(t, "without the right", busy(), item(1, api.KindReset, 0), 0, api.ErrDenied)
}

func TestBegin(t *testing.T) {
	for _, now := range []int{0, 40, 41, 51, 61, 101} {
		d := busy()
		d.Registry.Bucket.Level = 3
		kept := fmt.Sprint(d)
		want := d
		want.Registry = registry.Tick(d.Registry, now)
		want.Requests = request.Expire(d.Requests, now)
		expect(t, "Begin", desk.Begin(d, now), want)
		expect(t, "the argument", d, kept)
	}
	if d := desk.Begin(busy(), 41); len(d.Requests) != 1 || !d.Registry.Tokens[2].Used {
		t.Errorf("at 41: %v", d)
	}
}

func open(items ...api.Item) api.Input { return api.Input{Open: true, Items: items} }

// expectTick makes a tick and expects what Handle says of the items, one by one.
func expectTick(t *testing.T, name string, d api.Desk, in []api.Input, now int) {
	t.Helper()
	kept := fmt.Sprint(d, in)
	got, replies, entries, resets := desk.Tick(config(), d, in, now)
	expect(t, name+": the arguments", fmt.Sprint(d, in), kept)
	want := make([][]api.Message, 2)
	var trail []api.Entry
	var reset []int
	d.Audit = append([]bool(nil), d.Audit...)
	for s := range 2 {
		if s >= len(in) || !in[s].Open {
			d.Audit[s] = false
		}
	}
	for s := range 2 {
		if s >= len(in) || !in[s].Open {
			continue
		}
		for _, it := range in[s].Items {
			next, m, e, r := desk.Handle(config(), d, s, it, now)
			d, want[s], trail = next, append(want[s], m), append(trail, e)
			if r != -1 {
				reset = append(reset, r)
			}
		}
	}
	d.Requests = request.Mark(d.Requests, now)
	expect(t, name+": the desk", got, d)
	expect(t, name+": the replies", replies, want)
	expect(t, name+": the entries", entries, trail)
	expect(t, name+": the resets", resets, reset)
}

func TestTick(t *testing.T) {
	audited := busy()
	audited.Audit = []bool{true, true}
	hello, bad := item(0, api.KindHello), api.Item{Code: api.ErrSum}
	submit, reset := item(0, 6, 3, 7, 20, 0, 1, 0, 5), item(0, api.KindReset, 1)
	audit := item(0, api.KindAudit, 1)
	closed := api.Input{Items: []api.Item{hello, submit, reset}}
	for name, in := range map[string][]api.Input{
		"nothing":                 nil,
		"open and silent":         {open(), open()},
		"one input":               {open(hello)},
		"a closed one with items": {closed, open(hello)},
		"two":                     {open(hello, bad, submit), open(submit, reset, audit)},
		"further inputs":          {open(submit), open(hello), open(item(0, 6, 9, 7, 20, 1, 0, 0, 5))},
		"resets":                  {open(reset, item(0, api.KindReset, 0)), open(reset, item(0, api.KindReset, 2))},
		"an audit and a close":    {open(audit), closed},
		"the order of sessions":   {open(item(0, 5, 7)), open(submit)},
		"the other order":         {open(submit), open(item(0, 5, 7))},
		"draws":                   {open(item(0, 2, 1, 1, 1), item(0, 2, 2, 1, 1)), open(item(0, 2, 3, 1, 1))},
		"a budget that ends":      {open(submit, submit, submit, submit), open(submit, submit, submit, submit, submit, submit, submit)},
	} {
		for _, now := range []int{10, 20, 31, 60} {
			expectTick(t, name, busy(), in, now)
			expectTick(t, name, audited, in, now)
		}
	}
}

// The legs are marked after the items, so that a leg that is live at once has been live since this tick.
func TestTickMarks(t *testing.T) {
	d, replies, entries, resets := desk.Tick(config(), busy(), []api.Input{open(item(0, 6, 3, 7, 20, 0, 1, 0, 5)), {}}, 10)
	expect(t, "the new leg", d.Requests[1].Legs, []api.Leg{leg(0, 1, 10, 15, 10)})
	expect(t, "an old leg", d.Requests[0].Legs, []api.Leg{leg(0, 1, 20, 30, -1), leg(1, 0, 5, 30, 9)})
	expect(t, "a leg that is over", d.Requests[2].Legs, []api.Leg{leg(1, 0, 5, 8, -1)})
	expect(t, "the replies", replies, [][]api.Message{{reply(api.KindAck, 6, 3)}, nil})
	expect(t, "the entries", entries, []api.Entry{{Agency: 1, Kind: 6}})
	expect(t, "the resets", resets, []int{})
}

// Audit of a closed session becomes false ahead of all, that of one that is open stays.
func TestTickAudit(t *testing.T) {
	d := busy()
	d.Audit = []bool{true, true}
	d, _, _, _ = desk.Tick(config(), d, []api.Input{open(), {}}, 10)
	expect(t, "one closed", d.Audit, []bool{true, false})
	d, _, _, _ = desk.Tick(config(), d, []api.Input{open(), open(item(0, api.KindAudit, 1))}, 11)
	expect(t, "set again", d.Audit, []bool{true, true})
	d, _, _, _ = desk.Tick(config(), d, nil, 12)
	expect(t, "no inputs", d.Audit, []bool{false, false})
}

func TestStatus(t *testing.T) {
	views := []api.View{{Override: true, Colors: []int{0, 1}, Counts: []int{0, 2}}, {Colors: []int{1}, Counts: []int{0}}}
	for _, now := range []int{4, 10, 20, 31} {
		expect(t, "Status", desk.Status(busy(), views, now), status.Message(now, views, status.Codes(busy().Requests, 3, views, now)))
	}
	m := desk.Status(busy(), views, 20)
	expect(t, "the codes", m.Data[len(m.Data)-9:], []byte{3, 2, 0, 1, 0, 0, 0, 0, 0})
}
