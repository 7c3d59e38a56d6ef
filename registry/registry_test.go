package registry_test

import (
	"bytes"
	"fmt"
	"math"
	"testing"

	"signalbroker/api"
	"signalbroker/message"
	"signalbroker/rate"
	"signalbroker/registry"
	"signalbroker/token"
)

var nonce = []byte("nonce678")

func agency() api.Agency {
	return api.Agency{Secret: []byte("12345678"), Rights: 63, Class: 2, Limits: []int{2, 2, 2, 2}, Requests: 2, Sessions: 1, Rate: 1, Burst: 5}
}

// fresh is a registry in which slot 1 has the class 1, no right to derive, and an end at 100, and slot 2 comes from it.
func fresh() api.Registry {
	r := registry.New(2, agency())
	r.Tokens[1] = api.Token{Used: true, Secret: []byte("abcdefgh"), Rights: 3, Class: 1, Until: 100}
	r.Tokens[2] = api.Token{Used: true, Secret: []byte("ABCDEFGH"), Parent: 1, Rights: 1, Class: 0, Until: 50}
	r.Vehicles = []api.Vehicle{{ID: 5, Class: 1}, {ID: 9, Class: 2}}
	return r
}

func of(r api.Registry, slot int) []byte { return token.Bytes(r.Number, slot, r.Tokens[slot].Secret) }

func order(r api.Registry, slot, kind int, args ...int) api.Message {
	return api.Message{Kind: kind, Token: of(r, slot), Args: args}
}

func expect(t *testing.T, name string, got, want any) {
	t.Helper()
	if fmt.Sprint(got) != fmt.Sprint(want) {
		t.Errorf("%s: %v, not %v", name, got, want)
	}
}

func TestNew(t *testing.T) {
	a := agency()
	r := registry.New(3, a)
	expect(t, "New", r, api.Registry{Number: 3, Agency: a, Tokens: token.New(a), Bucket: rate.New(1, 5)})
	if !registry.Valid(r) {
		t.Error("New is not valid")
	}
	r.Agency.Secret[0], r.Agency.Limits[0] = 0, 0
	expect(t, "the argument", a, agency())
	expect(t, "the slot", r.Tokens[0].Secret, agency().Secret)
}

func TestValid(t *testing.T) {
	for name, x := range map[string]struct {
		change func(r *api.Registry)
		want   bool
	}{
		"as it is":          {func(r *api.Registry) {}, true},
		"number 0":          {func(r *api.Registry) { r.Number = 0 }, true},
		"number 3":          {func(r *api.Registry) { r.Number = 3 }, true},
		"number 4":          {func(r *api.Registry) { r.Number = 4 }, false},
		"number -1":         {func(r *api.Registry) { r.Number = -1 }, false},
		"an invalid agency": {func(r *api.Registry) { r.Agency.Sessions = 0 }, false},
		"invalid tokens":    {func(r *api.Registry) { r.Tokens[7].Class = 1 }, false},
		"no tokens":         {func(r *api.Registry) { r.Tokens = nil }, false},
		"invalid vehicles":  {func(r *api.Registry) { r.Vehicles[1].ID = 5 }, false},
		"no vehicles":       {func(r *api.Registry) { r.Vehicles = nil }, true},
		"level 0":           {func(r *api.Registry) { r.Bucket.Level = 0 }, true},
		"level -1":          {func(r *api.Registry) { r.Bucket.Level = -1 }, false},
		"level 6":           {func(r *api.Registry) { r.Bucket.Level = 6 }, false},
		"another rate":      {func(r *api.Registry) { r.Bucket.Rate = 2 }, false},
		"another burst":     {func(r *api.Registry) { r.Bucket.Burst = 6 }, false},
		"another both":      {func(r *api.Registry) { r.Agency.Rate, r.Agency.Burst = 3, 9 }, false},
	} {
		r := fresh()
		x.change(&r)
		if registry.Valid(r) != x.want {
			t.Errorf("%s: it is not %v", name, x.want)
		}
	}
}

func TestTick(t *testing.T) {
	for _, now := range []int{0, 50, 51, 100, 101, api.MaxTick} {
		r := fresh()
		r.Bucket.Level = 2
		want := r
		want.Tokens = token.Expire(r.Tokens, now)
		want.Bucket.Level = 3
		expect(t, "Tick", registry.Tick(r, now), want)
	}
	r := fresh()
	expect(t, "Tick of a full bucket", registry.Tick(r, 0), fresh())
	expect(t, "the example of an end", registry.Tick(r, 51).Tokens[2], api.Token{Parent: -1})
}

func expectOpen(t *testing.T, name string, r api.Registry, m api.Message, now int, taken bool, slot int, code api.Errno) {
	t.Helper()
	want := r
	if taken {
		want.Bucket.Level--
	}
	if code != api.OK {
		want = api.Registry{}
	}
	got, s, e := registry.Open(r, m, now)
	expect(t, name, got, want)
	if s != slot || e != code {
		t.Errorf("%s: %d, %d, not %d, %d", name, s, e, slot, code)
	}
}

func TestOpen(t *testing.T) {
	r := fresh()
	for kind := range 30 {
		expectOpen(t, fmt.Sprint("the root and the kind ", kind), r, order(r, 0, kind), 5, kind >= 2 && kind <= 8, 0, api.OK)
		empty := r
		empty.Bucket.Level = 0
		code := api.OK
		if kind >= 2 && kind <= 8 {
			code = api.ErrRate
		}
		expectOpen(t, fmt.Sprint("an empty bucket and the kind ", kind), empty, order(r, 0, kind), 5, false, 0, code)
	}
	expectOpen(t, "a derived token", r, order(r, 1, api.KindRegister), 100, true, 1, api.OK)
	expectOpen(t, "the next one", r, order(r, 2, api.KindList), 50, false, 2, api.OK)
	expectOpen(t, "after its end", r, order(r, 1, api.KindRegister), 101, false, 0, api.ErrDenied)
	expectOpen(t, "without the right", r, order(r, 2, api.KindRegister), 5, false, 0, api.ErrDenied)
	expectOpen(t, "without a token", r, api.Message{Kind: api.KindHello}, 5, false, 0, api.ErrDenied)
	other := order(r, 0, api.KindHello)
	other.Token[0] = 1
	expectOpen(t, "another agency", r, other, 5, false, 0, api.ErrDenied)
	free := order(r, 0, api.KindHello)
	free.Token[1] = 3
	expectOpen(t, "a free slot", r, free, 5, false, 0, api.ErrDenied)
	empty := r
	empty.Bucket.Level = 0
	expectOpen(t, "ErrDenied ahead of ErrRate", empty, order(r, 2, api.KindRegister), 5, false, 0, api.ErrDenied)
	one := r
	one.Bucket.Level = 1
	expectOpen(t, "the last unit", one, order(r, 2, api.KindCancel), 5, true, 2, api.OK)
	expectOpen(t, "Args do not matter", r, order(r, 0, api.KindSubmit, -1, -2), 5, true, 0, api.OK)
}

type done struct {
	reply api.Message
	used  bool
	code  api.Errno
}

// expectDo carries out a message, and expects the registry with a change.
func expectDo(t *testing.T, name string, r api.Registry, m api.Message, slot, now int, secret []byte, change func(r *api.Registry), want done) {
	t.Helper()
	kept := fmt.Sprint(r)
	got, reply, used, code := registry.Do(r, m, slot, now, secret)
	expect(t, name, done{reply, used, code}, want)
	expect(t, name+": the argument", r, kept)
	if change == nil {
		expect(t, name, got, api.Registry{})
		return
	}
	if !registry.Valid(got) {
		t.Errorf("%s: it is not valid", name)
	}
	x := r
	x.Tokens = append([]api.Token(nil), r.Tokens...)
	change(&x)
	expect(t, name, got, x)
}

func failed(code api.Errno) done { return done{code: code} }

func TestDerive(t *testing.T) {
	r := fresh()
	issued := func(slot int) done {
		return done{api.Message{Kind: api.KindIssued, Args: []int{slot}, Data: token.Bytes(2, slot, nonce)}, true, api.OK}
	}
	put := func(x api.Token) func(r *api.Registry) {
		return func(r *api.Registry) { r.Tokens[3] = x }
	}
	expectDo(t, "from the root", r, order(r, 0, api.KindDerive, 33, 2, 600), 0, 7, nonce, put(api.Token{Used: true, Secret: nonce, Rights: 33, Class: 2, Until: 607}), issued(3))
	expectDo(t, "without an end", r, order(r, 0, api.KindDerive, 0, 0, 0), 0, 7, nonce, put(api.Token{Used: true, Secret: nonce}), issued(3))
	expectDo(t, "from slot 1", r, order(r, 0, api.KindDerive, 2, 1, 93), 1, 7, nonce, put(api.Token{Used: true, Secret: nonce, Parent: 1, Rights: 2, Class: 1, Until: 100}), issued(3))
	for name, x := range map[string]struct {
		args  []int
		slot  int
		wants api.Errno
	}{
		"a right that the parent lacks": {[]int{4, 1, 1}, 1, api.ErrRange},
		"rights of no kind":             {[]int{64, 1, 1}, 0, api.ErrRange},
		"a greater class":               {[]int{1, 2, 1}, 1, api.ErrRange},
		"a long life":                   {[]int{1, 1, 601}, 0, api.ErrRange},
		"later than the parent":         {[]int{1, 1, 94}, 1, api.ErrRange},
		"without an end":                {[]int{1, 1, 0}, 1, api.ErrRange},
	} {
		expectDo(t, name, r, order(r, 0, api.KindDerive, x.args...), x.slot, 7, nonce, nil, failed(x.wants))
		expectDo(t, name+", without a nonce", r, order(r, 0, api.KindDerive, x.args...), x.slot, 7, nil, nil, failed(x.wants))
	}
	fine := order(r, 0, api.KindDerive, 1, 1, 1)
	expectDo(t, "no nonce", r, fine, 0, 7, nil, nil, failed(api.ErrDraw))
	expectDo(t, "an empty nonce", r, fine, 0, 7, []byte{}, nil, failed(api.ErrDraw))
	expectDo(t, "now -1", r, fine, 0, -1, nonce, nil, failed(api.ErrArg))
	expectDo(t, "now too great", r, fine, 0, api.MaxTick+1, nil, nil, failed(api.ErrArg))
	full := r
	full.Tokens = nil
	for range 8 {
		full.Tokens = append(full.Tokens, api.Token{Used: true, Secret: nonce})
	}
	full.Tokens[0] = r.Tokens[0]
	expectDo(t, "full", full, fine, 0, 7, nonce, nil, failed(api.ErrFull))
	expectDo(t, "full, without a nonce", full, fine, 0, 7, nil, nil, failed(api.ErrFull))
}

func acknowledged(kind, value int) done {
	return done{api.Message{Kind: api.KindAck, Args: []int{kind, value}}, false, api.OK}
}

func TestRevoke(t *testing.T) {
	r := fresh()
	free := api.Token{Parent: -1}
	for _, secret := range [][]byte{nil, nonce} {
		expectDo(t, "slot 1", r, order(r, 0, api.KindRevoke, 1), 0, 7, secret, func(r *api.Registry) { r.Tokens[1], r.Tokens[2] = free, free }, acknowledged(api.KindRevoke, 1))
		expectDo(t, "slot 2", r, order(r, 0, api.KindRevoke, 2), 1, 7, secret, func(r *api.Registry) { r.Tokens[2] = free }, acknowledged(api.KindRevoke, 2))
		expectDo(t, "the root", r, order(r, 0, api.KindRevoke, 0), 0, 7, secret, nil, failed(api.ErrRange))
		expectDo(t, "no slot", r, order(r, 0, api.KindRevoke, 8), 0, 7, secret, nil, failed(api.ErrRange))
		expectDo(t, "a free slot", r, order(r, 0, api.KindRevoke, 5), 0, 7, secret, nil, failed(api.ErrNone))
	}
}

func TestRegister(t *testing.T) {
	r := fresh()
	set := func(l ...api.Vehicle) func(r *api.Registry) { return func(r *api.Registry) { r.Vehicles = l } }
	expectDo(t, "class 2", r, order(r, 0, api.KindRegister, 7, 2), 0, 7, nonce, set(api.Vehicle{ID: 5, Class: 1}, api.Vehicle{ID: 7, Class: 2}, api.Vehicle{ID: 9, Class: 2}), acknowledged(api.KindRegister, 7))
	expectDo(t, "class 1 with slot 1", r, order(r, 0, api.KindRegister, 1, 1), 1, 7, nil, set(api.Vehicle{ID: 1, Class: 1}, api.Vehicle{ID: 5, Class: 1}, api.Vehicle{ID: 9, Class: 2}), acknowledged(api.KindRegister, 1))
	expectDo(t, "the greatest number", r, order(r, 0, api.KindRegister, api.MaxNumber, 0), 0, 7, nil, set(api.Vehicle{ID: 5, Class: 1}, api.Vehicle{ID: 9, Class: 2}, api.Vehicle{ID: api.MaxNumber}), acknowledged(api.KindRegister, api.MaxNumber))
	two := fresh()
	two.Vehicles = []api.Vehicle{{ID: 5, Class: 2}, {ID: 9, Class: 2}}
	for name, x := range map[string]struct {
		r         api.Registry
		id, class int
		slot      int
		want      api.Errno
	}{
		"a class above the agency's":    {r, 7, 3, 0, api.ErrClass},
		"a class above the token's":     {r, 7, 2, 1, api.ErrClass},
		"another token":                 {r, 7, 1, 2, api.ErrClass},
		"ErrClass ahead of ErrExists":   {r, 9, 2, 1, api.ErrClass},
		"ErrClass ahead of ErrQuota":    {two, 7, 2, 1, api.ErrClass},
		"a vehicle that is there":       {r, 9, 0, 0, api.ErrExists},
		"ErrExists ahead of the quota":  {two, 9, 2, 0, api.ErrExists},
		"as many as there may be":       {two, 7, 2, 0, api.ErrQuota},
		"the greatest class of numbers": {r, 7, api.MaxNumber, 0, api.ErrClass},
	} {
		expectDo(t, name, x.r, order(r, 0, api.KindRegister, x.id, x.class), x.slot, 7, nonce, nil, failed(x.want))
	}
}

func TestRemove(t *testing.T) {
	r := fresh()
	expectDo(t, "5", r, order(r, 0, api.KindRemove, 5), 0, 7, nonce, func(r *api.Registry) { r.Vehicles = []api.Vehicle{{ID: 9, Class: 2}} }, acknowledged(api.KindRemove, 5))
	expectDo(t, "9, with slot 1", r, order(r, 0, api.KindRemove, 9), 1, 7, nil, func(r *api.Registry) { r.Vehicles = []api.Vehicle{{ID: 5, Class: 1}} }, acknowledged(api.KindRemove, 9))
	expectDo(t, "no vehicle", r, order(r, 0, api.KindRemove, 6), 0, 7, nil, nil, failed(api.ErrNone))
}

func TestDoRefuses(t *testing.T) {
	r := fresh()
	broken := fresh()
	broken.Bucket.Level = 9
	fine := map[int]api.Message{
		api.KindDerive:   order(r, 0, api.KindDerive, 64, 1, 1),
		api.KindRevoke:   order(r, 0, api.KindRevoke, 0),
		api.KindRegister: order(r, 0, api.KindRegister, 5, 3),
		api.KindRemove:   order(r, 0, api.KindRemove, 6),
	}
	for _, m := range fine {
		expectDo(t, "an invalid registry", broken, m, 0, 7, nonce, nil, failed(api.ErrArg))
		for _, slot := range []int{-1, 3, 7, 8, math.MinInt, math.MaxInt} {
			expectDo(t, fmt.Sprint("slot ", slot), r, m, slot, 7, nonce, nil, failed(api.ErrArg))
		}
		for _, n := range []int{1, 7, 9, 16} {
			expectDo(t, fmt.Sprint(n, " bytes"), r, m, 0, 7, bytes.Repeat([]byte{1}, n), nil, failed(api.ErrArg))
		}
		x := m
		x.Token = nil
		expectDo(t, "no token", r, x, 0, 7, nonce, nil, failed(api.ErrArg))
		x = m
		x.Args = append([]int{0}, m.Args...)
		expectDo(t, "an argument more", r, x, 0, 7, nonce, nil, failed(api.ErrArg))
		x.Args = nil
		expectDo(t, "no arguments", r, x, 0, 7, nonce, nil, failed(api.ErrArg))
		x.Args = append([]int{-1}, m.Args[1:]...)
		expectDo(t, "a negative argument", r, x, 0, 7, nonce, nil, failed(api.ErrArg))
		x = m
		x.Data = []byte{1}
		expectDo(t, "data", r, x, 0, 7, nonce, nil, failed(api.ErrArg))
	}
	for kind := -1; kind < 30; kind++ {
		if _, ok := fine[kind]; ok {
			continue
		}
		for n := range 8 {
			m := api.Message{Kind: kind, Args: make([]int, n)}
			if message.ForServer(kind) {
				m.Token = of(r, 0)
			}
			expectDo(t, fmt.Sprint("the kind ", kind), r, m, 0, 7, nonce, nil, failed(api.ErrArg))
		}
	}
}
