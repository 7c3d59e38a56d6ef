package vehicle_test

import (
	"math"
	"math/rand"
	"slices"
	"testing"

	"signalbroker/api"
	"signalbroker/vehicle"
)

func v(id, class int) api.Vehicle { return api.Vehicle{ID: id, Class: class} }

func many(n, class int) []api.Vehicle {
	var l []api.Vehicle
	for k := range n {
		l = append(l, v(10*k, class))
	}
	return l
}

func agency(class int, limits ...int) api.Agency { return api.Agency{Class: class, Limits: limits} }

func TestValid(t *testing.T) {
	for _, x := range []struct {
		l    []api.Vehicle
		want bool
	}{
		{nil, true},
		{[]api.Vehicle{}, true},
		{[]api.Vehicle{v(0, 0)}, true},
		{[]api.Vehicle{v(api.MaxNumber, 3)}, true},
		{[]api.Vehicle{v(-1, 0)}, false},
		{[]api.Vehicle{v(math.MinInt, 0)}, false},
		{[]api.Vehicle{v(api.MaxNumber+1, 0)}, false},
		{[]api.Vehicle{v(math.MaxInt, 0), v(1, 0)}, false},
		{[]api.Vehicle{v(1, -1)}, false},
		{[]api.Vehicle{v(1, 4)}, false},
		{[]api.Vehicle{v(1, 0), v(2, 0)}, true},
		{[]api.Vehicle{v(1, 0), v(1, 1)}, false},
		{[]api.Vehicle{v(2, 0), v(1, 0)}, false},
		{[]api.Vehicle{v(1, 0), v(3, 0), v(2, 0)}, false},
		{[]api.Vehicle{v(1, 0), v(3, 0), v(5, 4)}, false},
		{many(8, 2), true},
		{many(9, 2), false},
	} {
		if vehicle.Valid(x.l) != x.want {
			t.Errorf("Valid(%v) is not %v", x.l, x.want)
		}
	}
}

func TestFindAndCount(t *testing.T) {
	l := []api.Vehicle{v(0, 1), v(5, 3), v(7, 1), v(api.MaxNumber, 0)}
	for _, x := range l {
		if got, ok := vehicle.Find(l, x.ID); !ok || got != x {
			t.Errorf("Find(%d) = %v, %v", x.ID, got, ok)
		}
	}
	for _, id := range []int{-1, 1, 4, 6, 8, api.MaxNumber - 1, math.MinInt, math.MaxInt} {
		if got, ok := vehicle.Find(l, id); ok || got != v(0, 0) {
			t.Errorf("Find(%d) = %v, %v", id, got, ok)
		}
	}
	if got, ok := vehicle.Find(nil, 0); ok || got != v(0, 0) {
		t.Errorf("Find in nothing = %v, %v", got, ok)
	}
	for class, want := range map[int]int{-1: 0, 0: 1, 1: 2, 2: 0, 3: 1, 4: 0} {
		if n := vehicle.Count(l, class); n != want {
			t.Errorf("Count(%d) = %d", class, n)
		}
	}
	if vehicle.Count(nil, 0) != 0 {
		t.Error("Count of nothing")
	}
}

func TestRegister(t *testing.T) {
	l := []api.Vehicle{v(2, 1), v(5, 3)}
	for _, x := range []struct {
		v    api.Vehicle
		want []api.Vehicle
	}{
		{v(0, 0), []api.Vehicle{v(0, 0), v(2, 1), v(5, 3)}},
		{v(3, 3), []api.Vehicle{v(2, 1), v(3, 3), v(5, 3)}},
		{v(4, 1), []api.Vehicle{v(2, 1), v(4, 1), v(5, 3)}},
		{v(6, 2), []api.Vehicle{v(2, 1), v(5, 3), v(6, 2)}},
		{v(api.MaxNumber, 2), []api.Vehicle{v(2, 1), v(5, 3), v(api.MaxNumber, 2)}},
	} {
		got, e := vehicle.Register(l, agency(3, 2, 2, 2, 2), x.v)
		if e != api.OK || !slices.Equal(got, x.want) {
			t.Errorf("Register(%v) = %v, %d", x.v, got, e)
		}
	}
	if got, e := vehicle.Register(nil, agency(0, 1, 0, 0, 0), v(7, 0)); e != api.OK || !slices.Equal(got, []api.Vehicle{v(7, 0)}) {
		t.Errorf("the first one: %v, %d", got, e)
	}
	if got, e := vehicle.Register(many(7, 1), agency(1, 0, 8, 0, 0), v(1, 1)); e != api.OK || len(got) != 8 {
		t.Errorf("the last one: %v, %d", got, e)
	}
}

func TestRegisterErrors(t *testing.T) {
	a := agency(2, 1, 2, 8, 8)
	for name, x := range map[string]struct {
		l    []api.Vehicle
		a    api.Agency
		v    api.Vehicle
		want api.Errno
	}{
		"a list that is not valid":     {[]api.Vehicle{v(2, 0), v(1, 0)}, a, v(5, 1), api.ErrArg},
		"ErrArg ahead of ErrRange":     {many(9, 1), a, v(-1, 9), api.ErrArg},
		"ID -1":                        {nil, a, v(-1, 1), api.ErrRange},
		"ID 2^32":                      {nil, a, v(api.MaxNumber+1, 1), api.ErrRange},
		"the greatest ID":              {nil, a, v(math.MaxInt, 1), api.ErrRange},
		"ErrRange ahead of ErrClass":   {nil, a, v(-1, 3), api.ErrRange},
		"class -1":                     {nil, a, v(1, -1), api.ErrClass},
		"a class above the agency's":   {nil, a, v(1, 3), api.ErrClass},
		"class 4":                      {nil, agency(3, 1, 1, 1, 1), v(1, 4), api.ErrClass},
		"the greatest class":           {nil, a, v(1, math.MaxInt), api.ErrClass},
		"ErrClass ahead of ErrExists":  {many(3, 0), a, v(10, 3), api.ErrClass},
		"an ID that is there":          {many(3, 2), a, v(10, 2), api.ErrExists},
		"the first ID":                 {many(3, 2), a, v(0, 2), api.ErrExists},
		"an ID of another class":       {many(3, 2), a, v(10, 1), api.ErrExists},
		"ErrExists ahead of ErrQuota":  {many(3, 0), a, v(20, 0), api.ErrExists},
		"as many as permitted":         {many(1, 0), a, v(5, 0), api.ErrQuota},
		"more than permitted":          {many(3, 0), a, v(5, 0), api.ErrQuota},
		"none permitted":               {nil, agency(2, 1, 0, 8, 8), v(5, 1), api.ErrQuota},
		"ErrQuota ahead of ErrFull":    {many(8, 1), a, v(5, 1), api.ErrQuota},
		"ErrQuota of 8 before ErrFull": {many(8, 2), a, v(5, 2), api.ErrQuota},
		"no place":                     {many(8, 2), a, v(5, 0), api.ErrFull},
	} {
		if got, e := vehicle.Register(x.l, x.a, x.v); len(got) != 0 || e != x.want {
			t.Errorf("%s: %v, %d, not %d", name, got, e, x.want)
		}
	}
}

func TestExample(t *testing.T) {
	a := agency(0, 1, 0, 0, 0)
	l, _ := vehicle.Register(nil, a, v(1, 0))
	if _, e := vehicle.Register(l, a, v(2, 0)); e != api.ErrQuota {
		t.Errorf("the second one: %d", e)
	}
	if _, e := vehicle.Register(l, a, v(2, 1)); e != api.ErrClass {
		t.Errorf("another class: %d", e)
	}
}

func TestRemove(t *testing.T) {
	l := []api.Vehicle{v(0, 1), v(5, 3), v(7, 1)}
	for id, want := range map[int][]api.Vehicle{0: {v(5, 3), v(7, 1)}, 5: {v(0, 1), v(7, 1)}, 7: {v(0, 1), v(5, 3)}} {
		if got, e := vehicle.Remove(l, id); e != api.OK || !slices.Equal(got, want) {
			t.Errorf("Remove(%d) = %v, %d", id, got, e)
		}
	}
	for _, id := range []int{-1, 1, 6, 8, math.MinInt, math.MaxInt} {
		if got, e := vehicle.Remove(l, id); len(got) != 0 || e != api.ErrNone {
			t.Errorf("Remove(%d) = %v, %d", id, got, e)
		}
	}
	if got, e := vehicle.Remove(nil, 0); len(got) != 0 || e != api.ErrNone {
		t.Errorf("Remove from nothing = %v, %d", got, e)
	}
	for _, id := range []int{1, 9} {
		if got, e := vehicle.Remove([]api.Vehicle{v(1, 0), v(1, 1)}, id); len(got) != 0 || e != api.ErrArg {
			t.Errorf("Remove from an invalid list = %v, %d", got, e)
		}
	}
}

func TestArgumentsStay(t *testing.T) {
	l := append(make([]api.Vehicle, 0, 9), v(2, 1), v(5, 1), v(9, 1))
	kept := slices.Clone(l)
	a, _ := vehicle.Register(l, agency(3, 8, 8, 8, 8), v(7, 1))
	b, _ := vehicle.Register(l, agency(3, 8, 8, 8, 8), v(3, 1))
	c, _ := vehicle.Remove(l, 2)
	for _, x := range [][]api.Vehicle{a, b, c} {
		x[0].Class = 3
	}
	if !slices.Equal(l, kept) || l[:4][3] != v(0, 0) {
		t.Errorf("the argument is %v", l[:4])
	}
}

func TestOrderDoesNotMatter(t *testing.T) {
	r := rand.New(rand.NewSource(1))
	for range 200 {
		want := many(8, 0)
		for k := range want {
			want[k].Class = r.Intn(4)
		}
		var l []api.Vehicle
		for _, k := range r.Perm(8) {
			var e api.Errno
			if l, e = vehicle.Register(l, agency(3, 8, 8, 8, 8), want[k]); e != api.OK || !vehicle.Valid(l) {
				t.Fatalf("Register: %v, %d", l, e)
			}
		}
		if !slices.Equal(l, want) {
			t.Fatalf("%v, not %v", l, want)
		}
	}
}
