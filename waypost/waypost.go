// Package waypost: a speaker of routes: see DOC.md.
package waypost

import (
	"waypost/api"
	"waypost/config"
)

// Speaker is a speaker with its peers.
type Speaker struct {
	config api.Config // the speaker's own copy
	states []int      // of the sessions, in the order of the peers
}

// New makes a speaker (P3).
func New(c api.Config) (*Speaker, api.Fault) {
	if fault := config.Check(c); fault != (api.Fault{}) {
		return nil, fault
	}
	return &Speaker{config: config.Copy(c), states: make([]int, len(c.Peers))}, api.Fault{}
}

// Turn is one turn (P4 to P9).
func (s *Speaker) Turn(ticks int, in []api.Input) []api.Output { return nil }

// State tells the state of a session (P10).
func (s *Speaker) State(peer int) int {
	if peer < 0 || peer >= len(s.states) {
		return 0
	}
	return s.states[peer]
}

// Best tells the best routes (P10).
func (s *Speaker) Best() []api.Route { return nil }
