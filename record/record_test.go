package record_test

import (
	"bytes"
	"fmt"
	"math"
	"math/rand"
	"slices"
	"testing"

	"signalbroker/api"
	"signalbroker/lamp"
	"signalbroker/record"
)

// crossing has four phases; the times of phase p are those of the others plus p.
func crossing() api.Junction {
	var j api.Junction
	for p := range 4 {
		j.Phases = append(j.Phases, api.Phase{Ring: p % 2, MinGreen: 5 + p, MaxGreen: 20, Yellow: 3 + p, Red: 4 + p, Walk: 1, Clear: 1})
	}
	j.Conflicts = []int{4, 8, 1, 2}
	return j
}

func signal(lights ...api.Light) api.Signal {
	return api.Signal{Control: api.Control{Lights: lights, Next: []int{-1, -1}}}
}

func expect(t *testing.T, name string, got, want any) {
	t.Helper()
	if fmt.Sprint(got) != fmt.Sprint(want) {
		t.Errorf("%s: %v, not %v", name, got, want)
	}
}

func TestFlashing(t *testing.T) {
	for n := range 9 {
		j := api.Junction{Phases: make([]api.Phase, n)}
		expect(t, "Flashing", record.Flashing(j), api.View{Flash: true, Colors: make([]int, n), Counts: make([]int, n)})
	}
}

func TestOf(t *testing.T) {
	idle, served := api.Service{Phase: -1, Ended: []int{1, 2, 3, 4}}, api.Service{Phase: 0, Green: 3}
	s := signal(api.Light{Lamp: 1, Ticks: 1}, api.Light{Lamp: 2, Ticks: 2}, api.Light{}, api.Light{})
	want := api.View{Colors: []int{1, 2, 0, 0}, Counts: []int{3, 1, 0, 0}}
	expect(t, "green and yellow", record.Of(crossing(), s, idle), want)
	want.Override = true
	expect(t, "with a service", record.Of(crossing(), s, served), want)
	served.Phase = 3
	expect(t, "with another service", record.Of(crossing(), s, served), want)
	s = signal(api.Light{}, api.Light{}, api.Light{Lamp: 3, Ticks: 2}, api.Light{Lamp: 1, Ticks: 100})
	want = api.View{Colors: []int{0, 0, 0, 1}, Counts: []int{0, 0, 3, 0}}
	expect(t, "clear and a long green", record.Of(crossing(), s, idle), want)
	s.Latched = true
	for _, v := range []api.Service{idle, served} {
		expect(t, "latched", record.Of(crossing(), s, v), record.Flashing(crossing()))
	}
}

func TestOfEveryLight(t *testing.T) {
	j := crossing()
	for p, x := range j.Phases {
		for lamps, last := range []int{0, 30, x.Yellow - 1, x.Red - 1} {
			for ticks := range last + 1 {
				s := signal(make([]api.Light, 4)...)
				s.Control.Lights[p] = api.Light{Lamp: lamps, Ticks: ticks}
				want := api.View{Colors: make([]int, 4), Counts: make([]int, 4)}
				want.Counts[p] = lamp.Count(x, s.Control.Lights[p])
				want.Colors[p] = []int{0, 1, 2, 0}[lamps]
				expect(t, fmt.Sprint("lamp ", lamps), record.Of(j, s, api.Service{Phase: -1}), want)
			}
		}
	}
}

func TestSize(t *testing.T) {
	for n := -3; n < 20; n++ {
		if s := record.Size(n); s != 3+n {
			t.Errorf("Size(%d) = %d", n, s)
		}
	}
}

func view(flash, override bool, colors, counts []int) api.View {
	return api.View{Flash: flash, Override: override, Colors: colors, Counts: counts}
}

func TestBytes(t *testing.T) {
	for _, x := range []struct {
		l    []api.View
		want []byte
	}{
		{nil, nil},
		{[]api.View{view(false, true, []int{1}, []int{4})}, []byte{2, 0, 1, 4}},
		{[]api.View{view(true, false, []int{0, 0}, []int{0, 0})}, []byte{1, 0, 0, 0, 0}},
		{[]api.View{view(false, false, nil, nil)}, []byte{0, 0, 0}},
		{[]api.View{view(true, true, []int{0, 1, 2}, []int{255, 0, 9})}, []byte{3, 0, 4 + 32, 255, 0, 9}},
		{[]api.View{view(false, false, []int{0, 0, 0, 0, 1, 0, 0, 2}, []int{1, 2, 3, 4, 5, 6, 7, 8})}, []byte{0, 0x81, 0, 1, 2, 3, 4, 5, 6, 7, 8}},
		{[]api.View{view(false, false, []int{3, 3, 3, 3, 3, 3, 3, 3}, make([]int, 8))}, []byte{0, 255, 255, 0, 0, 0, 0, 0, 0, 0, 0}},
		{[]api.View{view(false, true, []int{1}, []int{4}), view(true, false, []int{0}, []int{0})}, []byte{2, 0, 1, 4, 1, 0, 0, 0}},
	} {
		if got := record.Bytes(x.l); !bytes.Equal(got, x.want) {
			t.Errorf("Bytes(%v) = %x, not %x", x.l, got, x.want)
		}
	}
}

func TestParse(t *testing.T) {
	for _, x := range []struct {
		b      []byte
		phases []int
		want   []api.View
	}{
		{nil, nil, nil},
		{[]byte{2, 0, 1, 4}, []int{1}, []api.View{view(false, true, []int{1}, []int{4})}},
		{[]byte{3, 0, 0}, []int{0}, []api.View{view(true, true, nil, nil)}},
		{[]byte{1, 0, 6, 255, 7}, []int{2}, []api.View{view(true, false, []int{2, 1}, []int{255, 7})}},
		{[]byte{0, 0xaa, 0xaa, 0, 0, 0, 0, 0, 0, 0, 0}, []int{8}, []api.View{view(false, false, []int{2, 2, 2, 2, 2, 2, 2, 2}, make([]int, 8))}},
		{[]byte{0, 0, 0, 0, 0, 0, 2, 0, 1, 9}, []int{0, 0, 1}, []api.View{view(false, false, nil, nil), view(false, false, nil, nil), view(false, true, []int{1}, []int{9})}},
	} {
		got, e := record.Parse(x.b, x.phases)
		expect(t, "Parse", got, x.want)
		if e != api.OK {
			t.Errorf("Parse(%x, %v): %d", x.b, x.phases, e)
		}
	}
}

func TestParseRefuses(t *testing.T) {
	for name, x := range map[string]struct {
		b      []byte
		phases []int
	}{
		"nothing":                     {nil, []int{0}},
		"bytes without views":         {[]byte{0}, nil},
		"a byte less":                 {[]byte{0, 0, 0}, []int{1}},
		"a byte more":                 {[]byte{0, 0, 0, 0, 0}, []int{1}},
		"the last view has less":      {[]byte{0, 0, 0, 0, 0, 0}, []int{0, 1}},
		"a view more":                 {[]byte{0, 0, 0, 0, 0, 0}, []int{0}},
		"the first byte 4":            {[]byte{4, 0, 0, 0}, []int{1}},
		"the first byte 255":          {[]byte{255, 0, 0, 0}, []int{1}},
		"the first byte 5":            {[]byte{5, 0, 0, 0}, []int{1}},
		"color 3":                     {[]byte{0, 0, 3, 0}, []int{1}},
		"color 3 of another phase":    {[]byte{0, 0, 12, 0, 0}, []int{2}},
		"color 3 of the last phase":   {[]byte{0, 0xc0, 0, 0, 0, 0, 0, 0, 0, 0, 0}, []int{8}},
		"a bit beyond":                {[]byte{0, 0, 4, 0}, []int{1}},
		"a bit beyond without phases": {[]byte{0, 0, 1}, []int{0}},
		"the last bit beyond":         {[]byte{0, 0x80, 0, 0}, []int{1}},
		"a bit beyond seven":          {[]byte{0, 0x40, 0, 0, 0, 0, 0, 0, 0, 0}, []int{7}},
		"phases -1":                   {[]byte{0, 0}, []int{-1}},
		"phases -3":                   {nil, []int{-3}},
		"phases 9":                    {make([]byte, 12), []int{9}},
		"phases without end":          {make([]byte, 12), []int{math.MaxInt}},
		"negative phases":             {make([]byte, 12), []int{math.MinInt}},
		"the second phases are 9":     {make([]byte, 15), []int{0, 9}},
		"the second view":             {[]byte{0, 0, 0, 0, 0, 3, 0}, []int{0, 1}},
	} {
		if got, e := record.Parse(x.b, x.phases); len(got) != 0 || e != api.ErrForm {
			t.Errorf("%s: %v, %d", name, got, e)
		}
	}
}

func TestRoundTrip(t *testing.T) {
	r := rand.New(rand.NewSource(1))
	for range 2000 {
		var l []api.View
		var phases []int
		size := 0
		for range r.Intn(5) {
			n := r.Intn(9)
			v := view(r.Intn(2) == 0, r.Intn(2) == 0, nil, nil)
			for range n {
				v.Colors, v.Counts = append(v.Colors, r.Intn(3)), append(v.Counts, r.Intn(256))
			}
			l, phases, size = append(l, v), append(phases, n), size+record.Size(n)
		}
		b := record.Bytes(l)
		got, e := record.Parse(b, phases)
		expect(t, "Parse", got, l)
		if e != api.OK || len(b) != size {
			t.Fatalf("Parse of %v: %d, %d bytes", l, e, len(b))
		}
		if len(b) == 0 {
			continue
		}
		b[r.Intn(len(b))] ^= 1 << r.Intn(8)
		if got, e := record.Parse(b, phases); e == api.OK && !slices.Equal(record.Bytes(got), b) {
			t.Fatalf("Parse(%x) = %v", b, got)
		}
	}
}
