package laws

import (
	"math"
	"math/rand"
	"reflect"

	"signalbroker/api"
)

// maker makes arguments: much of it nonsense.
type maker struct {
	r    *rand.Rand
	tame bool
	last api.Junction // the latest junction, for which states are made
}

func (m *maker) number() int {
	if m.tame || m.r.Intn(3) > 0 {
		return m.r.Intn(14) - 3
	}
	l := []int{math.MinInt, math.MaxInt, -1 << 40, -256, 60, 61, 63, 64, 200, 201, 255, 256, 600, 601, 1000, 1001, 1 << 30, 1<<30 + 1, 1<<31 - 1, 1 << 31, 1<<32 - 1, 1 << 32, 1 << 62}
	return l[m.r.Intn(len(l))]
}

// value returns a value of the type t: a sensible one half the time, if there are any.
func (m *maker) value(t reflect.Type) reflect.Value {
	if x, ok := m.sensible(t); ok && m.r.Intn(2) == 0 {
		return reflect.ValueOf(x)
	}
	v := reflect.New(t).Elem()
	switch t.Kind() {
	case reflect.Int:
		v.SetInt(int64(m.number()))
	case reflect.Uint32, reflect.Uint8:
		v.SetUint(uint64(m.r.Uint32()) & uint64(1<<(8*t.Size())-1))
	case reflect.Bool:
		v.SetBool(m.r.Intn(2) == 0)
	case reflect.Slice:
		n := m.r.Intn(11)
		v.Set(reflect.MakeSlice(t, n, n))
		for k := range n {
			v.Index(k).Set(m.value(t.Elem()))
		}
	case reflect.Array:
		for k := range t.Len() {
			v.Index(k).Set(m.value(t.Elem()))
		}
	case reflect.Struct:
		for k := range t.NumField() {
			v.Field(k).Set(m.value(t.Field(k).Type))
		}
	}
	return v
}
