// Package clone copies the values of package api, so that results share no memory with arguments.
package clone

import (
	"slices"

	"signalbroker/api"
)

// Control returns a copy of a control.
func Control(c api.Control) api.Control {
	c.Lights = slices.Clone(c.Lights)
	c.Next = slices.Clone(c.Next)
	return c
}

// Signal returns a copy of a signal.
func Signal(s api.Signal) api.Signal {
	s.Control = Control(s.Control)
	return s
}

// Each returns a copy of a list, made with a function that copies an element.
func Each[T any](l []T, one func(T) T) []T {
	c := make([]T, len(l))
	for k, x := range l {
		c[k] = one(x)
	}
	return c
}

// Token returns a copy of a token.
func Token(t api.Token) api.Token {
	t.Secret = slices.Clone(t.Secret)
	return t
}

// Agency returns a copy of an agency.
func Agency(a api.Agency) api.Agency {
	a.Secret = slices.Clone(a.Secret)
	a.Limits = slices.Clone(a.Limits)
	return a
}

// Registry returns a copy of a registry.
func Registry(r api.Registry) api.Registry {
	r.Agency = Agency(r.Agency)
	r.Tokens = Each(r.Tokens, Token)
	r.Vehicles = slices.Clone(r.Vehicles)
	return r
}

// Request returns a copy of a request.
func Request(r api.Request) api.Request {
	r.Legs = slices.Clone(r.Legs)
	return r
}

// Service returns a copy of a service.
func Service(s api.Service) api.Service {
	s.Ended = slices.Clone(s.Ended)
	return s
}

// Session returns a copy of a session.
func Session(s api.Session) api.Session {
	s.Stream.Buffer = slices.Clone(s.Stream.Buffer)
	return s
}

// Desk returns a copy of a desk.
func Desk(d api.Desk) api.Desk {
	d.Registry = Registry(d.Registry)
	d.Requests = Each(d.Requests, Request)
	d.Draws = Each(d.Draws, slices.Clone)
	d.Audit = slices.Clone(d.Audit)
	return d
}

// View returns a copy of a view.
func View(v api.View) api.View {
	v.Colors = slices.Clone(v.Colors)
	v.Counts = slices.Clone(v.Counts)
	return v
}

// City returns a copy of a city. The configuration never changes, so that it is shared.
func City(c api.City) api.City {
	c.Desks = Each(c.Desks, Desk)
	c.Signals = Each(c.Signals, Signal)
	c.Services = Each(c.Services, Service)
	c.Stuck = slices.Clone(c.Stuck)
	c.Views = Each(c.Views, View)
	return c
}

// Broker returns a copy of a broker.
func Broker(b api.Broker) api.Broker {
	b.City = City(b.City)
	b.Sessions = Each(b.Sessions, Session)
	return b
}
