package model

import (
	"iter"

	"signalbroker/api"
	"signalbroker/desk"
	"signalbroker/drive"
	"signalbroker/junction"
	"signalbroker/message"
	"signalbroker/record"
	"signalbroker/status"
)

// heard is what the desks say in a tick.
type heard struct {
	replies [][]api.Message // for each session of the configuration
	entries []api.Entry
}

// sessions yields the sessions of an agency, counted within all of them.
func sessions(cfg api.Config, agency int) iter.Seq[int] {
	return func(yield func(int) bool) {
		first := 0
		for _, a := range cfg.Agencies[:agency] {
			first += a.Sessions
		}
		for s := range cfg.Agencies[agency].Sessions {
			if !yield(first + s) {
				return
			}
		}
	}
}

// input returns the input of a session; a missing one is not open.
func input(in []api.Input, session int) api.Input {
	if session >= len(in) {
		return api.Input{}
	}
	return in[session]
}

// refusal returns what a refused city says.
func refusal(in []api.Input) api.Said {
	notice := func() []api.Message {
		return []api.Message{{Kind: api.KindNotice, Args: []int{int(api.ErrConfig)}}}
	}
	said := api.Said{Sessions: make([][]api.Message, len(in)), Feed: notice()}
	for s, x := range in {
		if x.Open {
			said.Sessions[s] = notice()
		}
	}
	return said
}

// listen lets the desks handle the inputs, and resets junctions.
func listen(c *api.City, in []api.Input) heard {
	var h heard
	var resets []int
	for k, d := range c.Desks {
		c.Desks[k] = desk.Begin(d, c.Now)
	}
	for k, d := range c.Desks {
		var own []api.Input
		for s := range sessions(c.Config, k) {
			own = append(own, input(in, s))
		}
		next, replies, entries, r := desk.Tick(c.Config, d, own, c.Now)
		c.Desks[k] = next
		h.replies = append(h.replies, replies...)
		h.entries = append(h.entries, entries...)
		resets = append(resets, r...)
	}
	for _, k := range resets {
		c.Signals[k], _ = junction.Reset(c.Config.Junctions[k], c.Signals[k])
	}
	return h
}

// move makes a tick of the junctions.
func move(c *api.City) {
	c.Views = nil
	for k, j := range c.Config.Junctions {
		s, v := drive.Step(c.Config, j, c.Signals[k], c.Services[k], Claims(*c, k), c.Stuck[k], c.Now)
		c.Signals[k], c.Services[k], c.Stuck[k] = s, v, none
		c.Views = append(c.Views, record.Of(j, s, v))
	}
}

// tell returns what the city says.
func tell(c api.City, in []api.Input, h heard) api.Said {
	said := api.Said{
		Sessions: make([][]api.Message, len(h.replies)),
		Feed:     valid([]api.Message{status.Feed(c.Now, c.Views)}),
	}
	for k, d := range c.Desks {
		own := 0
		for s := range sessions(c.Config, k) {
			if input(in, s).Open {
				l := append(h.replies[s], desk.Status(d, c.Views, c.Now))
				if d.Audit[own] {
					l = append(l, trail(c.Now, h.entries))
				}
				said.Sessions[s] = valid(l)
			}
			own++
		}
	}
	return said
}

// trail returns the message of the audit.
func trail(now int, entries []api.Entry) api.Message {
	m := api.Message{Kind: api.KindTrail, Args: []int{now}}
	for _, e := range entries[:min(len(entries), api.MaxTrail)] {
		m.Args = append(m.Args, e.Agency, e.Kind, int(e.Code))
	}
	return m
}

// valid returns the messages that can be said.
func valid(l []api.Message) []api.Message {
	var said []api.Message
	for _, m := range l {
		if message.Valid(m) {
			said = append(said, m)
		}
	}
	return said
}
