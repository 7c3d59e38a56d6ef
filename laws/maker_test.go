package laws

import (
	"math"
	"math/rand"
	"reflect"

	"signalbroker/api"
)

// maker makes arguments: much of it nonsense.
type maker struct {
	r    *rand.Rand
	tame bool
	last api.Junction // the latest junction, for which states are made
}

func (m *maker) number() int {
	if m.tame || m.r.Intn(3) > 0 {
		return m.r.Intn(14) - 3
	}
	l := []int{math.MinInt, math.MaxInt, -1 << 40, -256, 60, 61, 63, 64, 200, 201, 255, 256, 600, 601, 1000, 1001, 1 << 30, 1<<30 + 1, 1<<31 - 1, 1 << 31, 1<<32 - 1, 1 << 32, 1 << 62}
	return l[m.r.Intn(len(l))]
}

// value returns a value of the type t: if there are any, a sensible one half the time, and one that is nearly so a quarter of the time.
func (m *maker) value(t reflect.Type) reflect.Value {
	if x, ok := m.sensible(t); ok && m.r.Intn(4) > 0 {
		v := reflect.New(t).Elem()
		v.Set(reflect.ValueOf(x))
		if m.r.Intn(3) == 0 {
			m.disturb(v)
		}
		return v
	}
	v := reflect.New(t).Elem()
	switch t.Kind() {
	case reflect.Int:
		v.SetInt(int64(m.number()))
	case reflect.Uint32, reflect.Uint8:
		v.SetUint(uint64(m.r.Uint32()) & uint64(1<<(8*t.Size())-1))
	case reflect.Bool:
		v.SetBool(m.r.Intn(2) == 0)
	case reflect.Slice:
		n := m.r.Intn(11)
		v.Set(reflect.MakeSlice(t, n, n))
		for k := range n {
			v.Index(k).Set(m.value(t.Elem()))
		}
	case reflect.Array:
		for k := range t.Len() {
			v.Index(k).Set(m.value(t.Elem()))
		}
	case reflect.Struct:
		for k := range t.NumField() {
			v.Field(k).Set(m.value(t.Field(k).Type))
		}
	}
	return v
}

// parts returns the numbers and slices within v.
func parts(v reflect.Value) []reflect.Value {
	var l []reflect.Value
	switch v.Kind() {
	case reflect.Int:
		return []reflect.Value{v}
	case reflect.Slice:
		if v.Len() > 0 {
			l = append(l, v)
		}
		for k := range v.Len() {
			l = append(l, parts(v.Index(k))...)
		}
	case reflect.Struct:
		for k := range v.NumField() {
			l = append(l, parts(v.Field(k))...)
		}
	}
	return l
}

// disturb changes a number within v, or takes the last element of a slice away.
func (m *maker) disturb(v reflect.Value) {
	l := parts(v)
	if len(l) == 0 {
		return
	}
	x := l[m.r.Intn(len(l))]
	if x.Kind() == reflect.Slice {
		x.Set(x.Slice(0, x.Len()-1))
		return
	}
	x.SetInt(int64(m.number()))
}
