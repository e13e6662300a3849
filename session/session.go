// Package session is the session with one peer: its state, its timers, the routes that the peer told, what is answered to what comes in, and what the peer is told.
package session

import (
	"waypost/api"
	"waypost/message"
	"waypost/route"
)

// Session is the session with one peer.
type Session struct {
	config api.Config // the speaker's
	place  int        // the peer's, counted from 0
	peer   api.Peer

	state  int
	number uint32 // the peer's, by its Open
	hold   int    // the hold time of the connection
	heard  int    // when the last message came in, or the connection came to stand
	spoke  int    // when something was sent last
	cut    message.Cutter
	routes map[route.Prefix]route.Route // that the peer has told now

	told   map[route.Prefix]announcement // the last of each; nil till the peer is told for the first time
	recent []timed                       // announced less than Wait ticks ago, in the order of the times
}

// New makes a session of a speaker with the peer at a place: Idle. The configuration's lists are kept.
func New(c api.Config, place int) Session {
	return Session{config: c, place: place, peer: c.Peers[place], routes: map[route.Prefix]route.Route{}}
}

// State tells the state.
func (s *Session) State() int { return s.state }

// idle forgets the connection.
func (s *Session) idle() {
	*s = New(s.config, s.place)
}

// silent says whether the hold time has gone by without a message.
func (s *Session) silent(now int) bool {
	return s.state != api.Idle && s.hold != 0 && now-s.heard >= s.hold
}

// owes says whether it is time for a Keepalive.
func (s *Session) owes(now int) bool {
	greeted := s.state == api.OpenConfirm || s.state == api.Established
	return greeted && s.hold != 0 && now-s.spoke >= s.hold/3
}

// belongs says whether a message of a type may come in now.
func (s *Session) belongs(kind int) bool {
	if kind == api.Notification {
		return true
	}
	switch s.state {
	case api.OpenSent:
		return kind == api.Open
	case api.OpenConfirm:
		return kind == api.Keepalive
	}
	return kind == api.Update || kind == api.Keepalive
}
