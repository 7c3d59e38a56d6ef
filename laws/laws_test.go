// Package laws tests the rules R1, R2 and R3 of the document for the functions of all layers.
package laws

import (
	"math/rand"
	"reflect"
	"testing"

	"signalbroker/api"
)

// mark fills what lies between the length and the capacity of an argument, so that an append into it is seen.
const mark = 77

// copyOf returns a deep copy of v in which every slice has two marked elements beyond its length.
func copyOf(v reflect.Value) reflect.Value {
	c := reflect.New(v.Type()).Elem()
	switch v.Kind() {
	case reflect.Slice:
		if v.IsNil() {
			return c
		}
		n := v.Len()
		c.Set(reflect.MakeSlice(v.Type(), n+2, n+2))
		for k := range n {
			c.Index(k).Set(copyOf(v.Index(k)))
		}
		for k := n; k < n+2; k++ {
			setMark(c.Index(k))
		}
		c.SetLen(n)
	case reflect.Struct:
		for k := range v.NumField() {
			c.Field(k).Set(copyOf(v.Field(k)))
		}
	default:
		c.Set(v)
	}
	return c
}

func setMark(v reflect.Value) {
	if v.CanInt() {
		v.SetInt(mark)
	}
	if v.CanUint() {
		v.SetUint(mark)
	}
}

// same compares two values; nil and empty slices are equal. If spare is set, it looks beyond the lengths of slices.
func same(a, b reflect.Value, spare bool) bool {
	switch a.Kind() {
	case reflect.Slice:
		if a.Len() != b.Len() {
			return false
		}
		n := a.Len()
		if spare && a.Cap() == b.Cap() {
			n = a.Cap()
		}
		a, b = a.Slice(0, n), b.Slice(0, n)
		for k := range n {
			if !same(a.Index(k), b.Index(k), spare) {
				return false
			}
		}
		return true
	case reflect.Struct:
		for k := range a.NumField() {
			if !same(a.Field(k), b.Field(k), spare) {
				return false
			}
		}
		return true
	}
	return a.Interface() == b.Interface()
}

// span is the memory of the elements of a slice.
type span struct{ from, to uintptr }

// spans returns the memory of all slices within v. A Config within a state may share its slices, so that it is left out.
func spans(v reflect.Value) []span {
	var l []span
	switch v.Kind() {
	case reflect.Slice:
		if size := v.Type().Elem().Size(); v.Len() > 0 && size > 0 {
			l = append(l, span{v.Pointer(), v.Pointer() + uintptr(v.Len())*size})
		}
		for k := range v.Len() {
			l = append(l, spans(v.Index(k))...)
		}
	case reflect.Struct:
		for k := range v.NumField() {
			if v.Field(k).Type() != reflect.TypeFor[api.Config]() {
				l = append(l, spans(v.Field(k))...)
			}
		}
	}
	return l
}

func meet(a, b span) bool { return a.from < b.to && b.from < a.to }

// call calls f, and fails if it panics.
func call(t *testing.T, name string, f reflect.Value, args []reflect.Value) (out []reflect.Value) {
	t.Helper()
	defer func() {
		if x := recover(); x != nil {
			t.Fatalf("R1: %s%v panics: %v", name, show(args), x)
		}
	}()
	return f.Call(args)
}

func show(l []reflect.Value) []any {
	var out []any
	for _, v := range l {
		out = append(out, v.Interface())
	}
	return out
}

func copies(args []reflect.Value) []reflect.Value {
	var l []reflect.Value
	for _, a := range args {
		l = append(l, copyOf(a))
	}
	return l
}

// hold checks the rules for one call.
func hold(t *testing.T, name string, f reflect.Value, args []reflect.Value) {
	t.Helper()
	given, again := copies(args), copies(args)
	out := call(t, name, f, given)
	for k := range given {
		if !same(given[k], again[k], true) {
			t.Fatalf("R2: %s%v modifies its argument %d", name, show(again), k)
		}
	}
	var results []span
	for _, o := range out {
		results = append(results, spans(o)...)
	}
	for k, a := range results {
		for _, b := range results[:k] {
			if meet(a, b) {
				t.Fatalf("R2: slices in one result of %s%v share memory", name, show(args))
			}
		}
		for _, g := range given {
			for _, b := range spans(g) {
				if meet(a, b) {
					t.Fatalf("R2: a result of %s%v shares memory with an argument", name, show(args))
				}
			}
		}
	}
	for k, o := range call(t, name, f, again) {
		if !same(o, out[k], false) {
			t.Fatalf("R3: two calls of %s%v differ", name, show(args))
		}
	}
}

// face is a function of a layer. A tame one is given no large numbers, as its result may be as large as they are.
type face struct {
	name string
	f    any
	tame bool
}

func TestLaws(t *testing.T) {
	for _, x := range faces() {
		t.Run(x.name, func(t *testing.T) {
			f := reflect.ValueOf(x.f)
			m := &maker{r: rand.New(rand.NewSource(int64(len(x.name)))), tame: x.tame}
			for range 300 {
				var args []reflect.Value
				for k := range f.Type().NumIn() {
					args = append(args, m.value(f.Type().In(k)))
				}
				hold(t, x.name, f, args)
			}
		})
	}
}
