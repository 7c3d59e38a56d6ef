// Package clone copies the values of package api, so that results share no memory with arguments.
package clone

import (
	"slices"

	"signalbroker/api"
)

// Control returns a copy of a control.
func Control(c api.Control) api.Control {
	c.Lights = slices.Clone(c.Lights)
	c.Next = slices.Clone(c.Next)
	return c
}

// Signal returns a copy of a signal.
func Signal(s api.Signal) api.Signal {
	s.Control = Control(s.Control)
	return s
}
