package request_test

import (
	"fmt"
	"math"
	"math/rand"
	"slices"
	"testing"

	"signalbroker/api"
	"signalbroker/request"
	"signalbroker/window"
)

func leg(junction, phase, from, to, since int) api.Leg {
	return api.Leg{Junction: junction, Phase: phase, From: from, To: to, Since: since}
}

func req(id, vehicle, class, until int, legs ...api.Leg) api.Request {
	return api.Request{ID: id, Vehicle: vehicle, Class: class, Until: until, Legs: legs}
}

// three is a list of three requests.
func three() []api.Request {
	return []api.Request{
		req(2, 70, 1, 50, leg(0, 1, 10, 20, 10), leg(2, 3, 30, 40, -1)),
		req(5, 71, 3, 60, leg(2, 0, 5, 15, 7)),
		req(9, 70, 0, 90, leg(1, 4, 0, 90, 0), leg(2, 7, 0, 1, -1), leg(0, 0, 12, 30, 12)),
	}
}

func expect(t *testing.T, name string, got, want any) {
	t.Helper()
	if fmt.Sprint(got) != fmt.Sprint(want) {
		t.Errorf("%s: %v, not %v", name, got, want)
	}
}

func TestValid(t *testing.T) {
	for name, x := range map[string]struct {
		change func(l []api.Request) []api.Request
		want   bool
	}{
		"as it is":           {func(l []api.Request) []api.Request { return l }, true},
		"nothing":            {func(l []api.Request) []api.Request { return nil }, true},
		"four":               {func(l []api.Request) []api.Request { return append(l, req(10, 1, 1, 1, leg(0, 0, 0, 0, 0))) }, true},
		"ID -1":              {func(l []api.Request) []api.Request { l[0].ID = -1; return l }, false},
		"ID 0":               {func(l []api.Request) []api.Request { l[0].ID = 0; return l }, true},
		"ID 2^32 - 1":        {func(l []api.Request) []api.Request { l[2].ID = api.MaxNumber; return l }, true},
		"ID 2^32":            {func(l []api.Request) []api.Request { l[2].ID = api.MaxNumber + 1; return l }, false},
		"equal IDs":          {func(l []api.Request) []api.Request { l[1].ID = 2; return l }, false},
		"descending IDs":     {func(l []api.Request) []api.Request { l[2].ID = 4; return l }, false},
		"the greatest ID":    {func(l []api.Request) []api.Request { l[0].ID = math.MaxInt; return l }, false},
		"vehicle -1":         {func(l []api.Request) []api.Request { l[0].Vehicle = -1; return l }, false},
		"vehicle 0":          {func(l []api.Request) []api.Request { l[0].Vehicle = 0; return l }, true},
		"vehicle 2^32 - 1":   {func(l []api.Request) []api.Request { l[0].Vehicle = api.MaxNumber; return l }, true},
		"vehicle 2^32":       {func(l []api.Request) []api.Request { l[0].Vehicle = api.MaxNumber + 1; return l }, false},
		"class -1":           {func(l []api.Request) []api.Request { l[0].Class = -1; return l }, false},
		"class 4":            {func(l []api.Request) []api.Request { l[0].Class = 4; return l }, false},
		"until -1":           {func(l []api.Request) []api.Request { l[0].Until = -1; return l }, false},
		"until 0":            {func(l []api.Request) []api.Request { l[0].Until = 0; return l }, true},
		"until 2^31":         {func(l []api.Request) []api.Request { l[0].Until = 2 * api.MaxTick; return l }, true},
		"until 2^31 + 1":     {func(l []api.Request) []api.Request { l[0].Until = 2*api.MaxTick + 1; return l }, false},
		"no legs":            {func(l []api.Request) []api.Request { l[0].Legs = nil; return l }, false},
		"four legs":          {func(l []api.Request) []api.Request { l[2].Legs = append(l[2].Legs, leg(3, 0, 0, 0, 0)); return l }, false},
		"equal junctions":    {func(l []api.Request) []api.Request { l[0].Legs[1].Junction = 0; return l }, false},
		"the third is equal": {func(l []api.Request) []api.Request { l[2].Legs[2].Junction = 1; return l }, false},
		"an invalid leg":     {func(l []api.Request) []api.Request { l[2].Legs[2].To = 11; return l }, false},
		"a leg of no phase":  {func(l []api.Request) []api.Request { l[1].Legs[0].Phase = 8; return l }, false},
	} {
		l := x.change(three())
		if request.Valid(l, 4) != x.want {
			t.Errorf("%s: it is not %v", name, x.want)
		}
	}
	for quota, want := range map[int]bool{3: true, 4: true, 100: true, 2: false, 0: false, -1: false, math.MinInt: false, math.MaxInt: true} {
		if request.Valid(three(), quota) != want {
			t.Errorf("with the quota %d it is not %v", quota, want)
		}
	}
	if !request.Valid(nil, 0) {
		t.Error("nothing is not valid with the quota 0")
	}
	five := append(three(), req(10, 1, 1, 1, leg(0, 0, 0, 0, 0)), req(11, 1, 1, 1, leg(0, 0, 0, 0, 0)))
	if request.Valid(five, 5) || request.Valid(five, 100) {
		t.Error("five are valid")
	}
}

func TestFind(t *testing.T) {
	l := three()
	for k, r := range three() {
		got, ok := request.Find(l, r.ID)
		expect(t, "Find", got, r)
		if !ok {
			t.Errorf("%d is not found", r.ID)
		}
		got.Legs[0].Phase = 6
		expect(t, "the argument", l[k], r)
	}
	for _, id := range []int{-1, 0, 3, 10, math.MinInt, math.MaxInt} {
		got, ok := request.Find(l, id)
		expect(t, "Find", got, api.Request{})
		if ok {
			t.Errorf("%d is found", id)
		}
	}
}

func TestWithoutAndExpire(t *testing.T) {
	all := three()
	expect(t, "without 70", request.Without(three(), 70), all[1:2])
	expect(t, "without 71", request.Without(three(), 71), []api.Request{all[0], all[2]})
	expect(t, "without 5", request.Without(three(), 5), all)
	expect(t, "without a negative one", request.Without(three(), -1), all)
	expect(t, "of nothing", request.Without(nil, 1), []api.Request{})
	for _, x := range []struct {
		now  int
		want []api.Request
	}{{0, all}, {50, all}, {51, all[1:]}, {60, all[1:]}, {61, all[2:]}, {90, all[2:]}, {91, nil}, {math.MaxInt, nil}, {math.MinInt, all}} {
		expect(t, fmt.Sprint("at ", x.now), request.Expire(three(), x.now), x.want)
	}
	l := three()
	for _, got := range [][]api.Request{request.Without(l, 1), request.Expire(l, 1), request.Mark(l, 10)} {
		got[0].Legs[0].Phase, got[0].ID = 6, 0
	}
	expect(t, "the argument", l, all)
}

func TestMark(t *testing.T) {
	for now := range 95 {
		want := three()
		for _, r := range want {
			for k := range r.Legs {
				r.Legs[k] = window.Mark(r.Legs[k], now)
			}
		}
		expect(t, fmt.Sprint("at ", now), request.Mark(three(), now), want)
	}
}

func TestClaims(t *testing.T) {
	c := func(id, phase, class, since int) api.Claim {
		return api.Claim{Agency: 3, ID: id, Phase: phase, Class: class, Since: since}
	}
	for junction, want := range map[int][]api.Claim{
		0:  {c(2, 1, 1, 10), c(9, 0, 0, 12)},
		1:  {c(9, 4, 0, 0)},
		2:  {c(5, 0, 3, 7)},
		3:  nil,
		-1: nil,
	} {
		expect(t, fmt.Sprint("at ", junction), request.Claims(three(), 3, junction), want)
	}
	expect(t, "of nothing", request.Claims(nil, 3, 0), []api.Claim{})
}

func TestSubmit(t *testing.T) {
	all := three()
	legs := []api.Leg{leg(3, 2, 10, 11, -1), leg(0, 7, 5, 5, 3)}
	for id, at := range map[int]int{0: 0, 1: 0, 3: 1, 4: 1, 6: 2, 8: 2, 10: 3, api.MaxNumber: 3} {
		for _, life := range []int{1, 600} {
			for _, now := range []int{0, 7, api.MaxTick} {
				l := three()
				got, e := request.Submit(l, 4, id, api.Vehicle{ID: 8, Class: 2}, life, legs, now)
				expect(t, fmt.Sprint("Submit ", id), got, slices.Insert(three(), at, req(id, 8, 2, now+life, legs...)))
				if e != api.OK || !request.Valid(got, 4) {
					t.Errorf("Submit(%d): %d", id, e)
				}
				for _, r := range got {
					r.Legs[0].Phase = 5
				}
				expect(t, "the list", l, all)
				expect(t, "the legs", legs[0], leg(3, 2, 10, 11, -1))
			}
		}
	}
	got, e := request.Submit(nil, 1, 0, api.Vehicle{ID: api.MaxNumber, Class: 3}, 9, legs[:1], 1)
	expect(t, "the first one", got, []api.Request{req(0, api.MaxNumber, 3, 10, legs[0])})
	if e != api.OK {
		t.Errorf("the first one: %d", e)
	}
}

type submitted struct {
	l         []api.Request
	quota, id int
	v         api.Vehicle
	life      int
	legs      []api.Leg
	now       int
}

func TestSubmitErrors(t *testing.T) {
	for name, x := range map[string]struct {
		change func(s *submitted)
		want   api.Errno
	}{
		"a list that is not valid":     {func(s *submitted) { s.l[0].Until = -1 }, api.ErrArg},
		"more than the quota":          {func(s *submitted) { s.quota = 2 }, api.ErrArg},
		"a negative quota":             {func(s *submitted) { s.l, s.quota = nil, -1 }, api.ErrArg},
		"vehicle -1":                   {func(s *submitted) { s.v.ID = -1 }, api.ErrArg},
		"vehicle 2^32":                 {func(s *submitted) { s.v.ID = api.MaxNumber + 1 }, api.ErrArg},
		"class -1":                     {func(s *submitted) { s.v.Class = -1 }, api.ErrArg},
		"class 4":                      {func(s *submitted) { s.v.Class = 4 }, api.ErrArg},
		"now -1":                       {func(s *submitted) { s.now = -1 }, api.ErrArg},
		"now too great":                {func(s *submitted) { s.now = api.MaxTick + 1 }, api.ErrArg},
		"ErrArg ahead of ErrRange":     {func(s *submitted) { s.now, s.id, s.life = -1, -1, 0 }, api.ErrArg},
		"ErrArg ahead of ErrExists":    {func(s *submitted) { s.v.Class, s.id = 4, 2 }, api.ErrArg},
		"ID -1":                        {func(s *submitted) { s.id = -1 }, api.ErrRange},
		"ID 2^32":                      {func(s *submitted) { s.id = api.MaxNumber + 1 }, api.ErrRange},
		"life 0":                       {func(s *submitted) { s.life = 0 }, api.ErrRange},
		"life -1":                      {func(s *submitted) { s.life = -1 }, api.ErrRange},
		"life 601":                     {func(s *submitted) { s.life = 601 }, api.ErrRange},
		"the greatest life":            {func(s *submitted) { s.life = math.MaxInt }, api.ErrRange},
		"no legs":                      {func(s *submitted) { s.legs = nil }, api.ErrRange},
		"four legs":                    {func(s *submitted) { s.legs = append(s.legs, leg(1, 0, 0, 0, -1), leg(2, 0, 0, 0, -1)) }, api.ErrRange},
		"equal junctions":              {func(s *submitted) { s.legs[1].Junction = 3 }, api.ErrRange},
		"equal junctions of the third": {func(s *submitted) { s.legs = append(s.legs, leg(3, 0, 0, 0, -1)) }, api.ErrRange},
		"an invalid leg":               {func(s *submitted) { s.legs[1].Phase = 8 }, api.ErrRange},
		"a leg with Since -2":          {func(s *submitted) { s.legs[0].Since = -2 }, api.ErrRange},
		"ErrRange ahead of ErrExists":  {func(s *submitted) { s.id, s.life = 5, 0 }, api.ErrRange},
		"ErrRange ahead of ErrQuota":   {func(s *submitted) { s.quota, s.legs = 3, nil }, api.ErrRange},
		"an ID that is there":          {func(s *submitted) { s.id = 5 }, api.ErrExists},
		"the first ID":                 {func(s *submitted) { s.id = 2 }, api.ErrExists},
		"ErrExists ahead of ErrQuota":  {func(s *submitted) { s.quota, s.id = 3, 9 }, api.ErrExists},
		"as many as the quota":         {func(s *submitted) { s.quota = 3 }, api.ErrQuota},
		"the quota 0":                  {func(s *submitted) { s.l, s.quota = nil, 0 }, api.ErrQuota},
		"MaxRequests":                  {func(s *submitted) { s.quota, s.l = 9, append(s.l, req(20, 1, 1, 1, leg(0, 0, 0, 0, 0))) }, api.ErrQuota},
	} {
		s := submitted{three(), 4, 7, api.Vehicle{ID: 1, Class: 1}, 10, []api.Leg{leg(3, 2, 10, 11, -1), leg(0, 7, 5, 5, -1)}, 5}
		x.change(&s)
		if got, e := request.Submit(s.l, s.quota, s.id, s.v, s.life, s.legs, s.now); len(got) != 0 || e != x.want {
			t.Errorf("%s: %v, %d, not %d", name, got, e, x.want)
		}
	}
}

func TestExample(t *testing.T) {
	legs := []api.Leg{leg(0, 0, 1, 2, -1)}
	l, _ := request.Submit(nil, 1, 4, api.Vehicle{ID: 1}, 9, legs, 1)
	if _, e := request.Submit(l, 1, 5, api.Vehicle{ID: 1}, 9, legs, 1); e != api.ErrQuota {
		t.Errorf("the second one: %d", e)
	}
	l, _ = request.Cancel(l, 4)
	if _, e := request.Submit(l, 1, 5, api.Vehicle{ID: 1}, 9, legs, 1); e != api.OK {
		t.Errorf("after Cancel: %d", e)
	}
}

func TestUpdate(t *testing.T) {
	l := three()
	want := three()
	want[2].Legs = []api.Leg{leg(1, 4, 105, 105, 0), leg(2, 7, 100, 700, -1), leg(0, 0, 103, 104, 12)}
	got, e := request.Update(l, 9, [][2]int{{5, 5}, {0, 600}, {3, 4}}, 100)
	expect(t, "Update", got, want)
	if e != api.OK || !request.Valid(got, 4) {
		t.Errorf("Update: %d", e)
	}
	got[0].Legs[0].Phase = 5
	expect(t, "the argument", l, three())
	want = three()
	want[0].Legs = []api.Leg{leg(0, 1, 101, 102, 10), leg(2, 3, 103, 104, -1)}
	got, e = request.Update(three(), 2, [][2]int{{1, 2}, {3, 4}}, 100)
	expect(t, "Update of the first one", got, want)
	if e != api.OK {
		t.Errorf("Update of the first one: %d", e)
	}
	want = three()
	want[1].Legs[0].From, want[1].Legs[0].To = api.MaxTick, api.MaxTick+600
	got, e = request.Update(three(), 5, [][2]int{{0, 600}}, api.MaxTick)
	expect(t, "Update at the last tick", got, want)
	if e != api.OK {
		t.Errorf("Update at the last tick: %d", e)
	}
}

func TestUpdateErrors(t *testing.T) {
	broken := three()
	broken[1].Legs[0].Since = -2
	five := append(three(), req(10, 1, 1, 1, leg(0, 0, 0, 0, 0)), req(11, 1, 1, 1, leg(0, 0, 0, 0, 0)))
	for name, x := range map[string]struct {
		l       []api.Request
		id      int
		windows [][2]int
		now     int
		want    api.Errno
	}{
		"a list that is not valid": {broken, 5, [][2]int{{1, 2}}, 5, api.ErrArg},
		"five requests":            {five, 5, [][2]int{{1, 2}}, 5, api.ErrArg},
		"now -1":                   {three(), 5, [][2]int{{1, 2}}, -1, api.ErrArg},
		"now too great":            {three(), 5, [][2]int{{1, 2}}, api.MaxTick + 1, api.ErrArg},
		"ErrArg ahead of ErrNone":  {three(), 6, [][2]int{{1, 2}}, -1, api.ErrArg},
		"no such request":          {three(), 6, [][2]int{{1, 2}}, 5, api.ErrNone},
		"a negative ID":            {three(), -1, [][2]int{{1, 2}}, 5, api.ErrNone},
		"ErrNone ahead":            {three(), 6, [][2]int{{2, 1}}, 5, api.ErrNone},
		"no windows":               {three(), 5, nil, 5, api.ErrRange},
		"a window more":            {three(), 5, [][2]int{{1, 2}, {1, 2}}, 5, api.ErrRange},
		"a window less":            {three(), 9, [][2]int{{1, 2}, {1, 2}}, 5, api.ErrRange},
		"from after to":            {three(), 5, [][2]int{{3, 2}}, 5, api.ErrRange},
		"from -1":                  {three(), 5, [][2]int{{-1, 2}}, 5, api.ErrRange},
		"to 601":                   {three(), 5, [][2]int{{1, 601}}, 5, api.ErrRange},
		"the last window":          {three(), 9, [][2]int{{1, 2}, {1, 2}, {2, 1}}, 5, api.ErrRange},
	} {
		kept := fmt.Sprint(x.l)
		if got, e := request.Update(x.l, x.id, x.windows, x.now); len(got) != 0 || e != x.want {
			t.Errorf("%s: %v, %d, not %d", name, got, e, x.want)
		}
		expect(t, name, x.l, kept)
	}
}

func TestCancel(t *testing.T) {
	all := three()
	for id, want := range map[int][]api.Request{2: all[1:], 5: {all[0], all[2]}, 9: all[:2]} {
		l := three()
		got, e := request.Cancel(l, id)
		expect(t, fmt.Sprint("Cancel ", id), got, want)
		if e != api.OK {
			t.Errorf("Cancel(%d): %d", id, e)
		}
		got[0].Legs[0].Phase = 6
		expect(t, "the argument", l, all)
	}
	for _, id := range []int{-1, 0, 3, 10, math.MaxInt} {
		if got, e := request.Cancel(three(), id); len(got) != 0 || e != api.ErrNone {
			t.Errorf("Cancel(%d) = %v, %d", id, got, e)
		}
	}
	broken := three()
	broken[0].Class = 4
	five := append(three(), req(10, 1, 1, 1, leg(0, 0, 0, 0, 0)), req(11, 1, 1, 1, leg(0, 0, 0, 0, 0)))
	for _, l := range [][]api.Request{broken, five} {
		for _, id := range []int{2, 3} {
			if got, e := request.Cancel(l, id); len(got) != 0 || e != api.ErrArg {
				t.Errorf("Cancel in an invalid list = %v, %d", got, e)
			}
		}
	}
}

func TestOrderDoesNotMatter(t *testing.T) {
	r := rand.New(rand.NewSource(1))
	for range 100 {
		var l []api.Request
		var e api.Errno
		for _, k := range r.Perm(4) {
			if l, e = request.Submit(l, 4, k*k, api.Vehicle{ID: k, Class: k}, 1+k, []api.Leg{leg(k, k, 0, k, -1)}, 5); e != api.OK {
				t.Fatal(e)
			}
		}
		for k, x := range l {
			expect(t, "in order", x, req(k*k, k, k, 6+k, leg(k, k, 0, k, -1)))
		}
	}
}
