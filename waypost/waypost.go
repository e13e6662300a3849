// Package waypost: a speaker of routes: see DOC.md.
package waypost

import (
	"maps"
	"slices"

	"waypost/api"
	"waypost/config"
	"waypost/route"
	"waypost/session"
)

// Speaker is a speaker with its peers.
type Speaker struct {
	now      int               // the time, in ticks
	sessions []session.Session // in the order of the peers
	best     map[route.Prefix]route.Offer
}

// New makes a speaker (P3).
func New(c api.Config) (*Speaker, api.Fault) {
	if fault := config.Check(c); fault != (api.Fault{}) {
		return nil, fault
	}
	s := &Speaker{best: map[route.Prefix]route.Offer{}}
	own := config.Copy(c)
	for place := range own.Peers {
		s.sessions = append(s.sessions, session.New(own, place))
	}
	return s, api.Fault{}
}

// Turn is one turn (P4 to P9).
func (s *Speaker) Turn(ticks int, in []api.Input) []api.Output {
	s.now = later(s.now, ticks)
	reports := s.work(s.split(in))
	s.tell(s.choose(reports), reports)
	return outputs(reports)
}

// State tells the state of a session (P10).
func (s *Speaker) State(peer int) int {
	if !s.has(peer) {
		return 0
	}
	return s.sessions[peer].State()
}

// Best tells the best routes (P10).
func (s *Speaker) Best() []api.Route {
	var list []api.Route
	for _, p := range slices.SortedFunc(maps.Keys(s.best), route.Prefix.Compare) {
		list = append(list, asRoute(p, s.best[p]))
	}
	return list
}

func (s *Speaker) has(peer int) bool {
	return peer >= 0 && peer < len(s.sessions)
}
