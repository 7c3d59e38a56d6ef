package view

import (
	"slices"

	"signalbroker/api"
	"signalbroker/broker"
	"signalbroker/desk"
	"signalbroker/wire"
)

// seat is an agency alone, without a city around it.
type seat struct {
	cfg      api.Config
	desk     api.Desk
	sessions []api.Session
}

// newSeat returns an agency with a new desk and closed sessions.
func newSeat(cfg api.Config, agency int) *seat {
	d := desk.New(agency, cfg.Agencies[agency])
	return &seat{cfg, d, make([]api.Session, len(d.Audit))}
}

// hear carries out an event that belongs to the agency and is no tick.
func (s *seat) hear(e api.Event) {
	if e.Kind == api.EvDraw {
		// What the city draws and no more: further nonces are lost there, too.
		if len(e.Bytes) == api.SecretBytes && len(s.desk.Draws) < api.MaxDraws {
			s.desk.Draws = append(s.desk.Draws, slices.Clone(e.Bytes))
		}
		return
	}
	if _, own := broker.Owner(s.cfg, e.Session); own < len(s.sessions) {
		s.sessions[own] = wire.Hear(s.sessions[own], e)
	}
}

// tick makes a tick and returns what each session is sent.
func (s *seat) tick(v []api.View, now int) [][]byte {
	sessions, in := wire.Listen(s.sessions)
	d, replies, _, _ := desk.Tick(s.cfg, desk.Begin(s.desk, now), in, now)
	s.sessions, s.desk = sessions, d
	sent := make([][]byte, len(sessions))
	for k, x := range in {
		if x.Open {
			sent[k] = wire.Frames(append(replies[k], desk.Status(d, v, now)))
		}
	}
	return sent
}
