// Package waypost: a speaker of routes: see DOC.md.
package waypost

import (
	"waypost/api"
	"waypost/config"
	"waypost/session"
)

// Speaker is a speaker with its peers.
type Speaker struct {
	now      int               // the time, in ticks
	sessions []session.Session // in the order of the peers
}

// New makes a speaker (P3).
func New(c api.Config) (*Speaker, api.Fault) {
	if fault := config.Check(c); fault != (api.Fault{}) {
		return nil, fault
	}
	s := &Speaker{}
	for _, peer := range config.Copy(c).Peers {
		s.sessions = append(s.sessions, session.New(c.AS, c.ID, peer))
	}
	return s, api.Fault{}
}

// Turn is one turn (P4 to P9).
func (s *Speaker) Turn(ticks int, in []api.Input) []api.Output {
	s.now = later(s.now, ticks)
	return outputs(s.work(s.split(in)))
}

// State tells the state of a session (P10).
func (s *Speaker) State(peer int) int {
	if !s.has(peer) {
		return 0
	}
	return s.sessions[peer].State()
}

// Best tells the best routes (P10).
func (s *Speaker) Best() []api.Route { return nil }

func (s *Speaker) has(peer int) bool {
	return peer >= 0 && peer < len(s.sessions)
}
