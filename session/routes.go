package session

import (
	"waypost/message"
	"waypost/route"
)

func (s *Session) external() bool { return s.peer.AS != s.config.AS }

// learn takes in what an Update tells. One prefix may be withdrawn and announced by it: then it is announced.
func (t *turn) learn(u message.Update) {
	for _, p := range u.Withdrawn {
		delete(t.routes, p)
		t.changed(p)
	}
	if t.external() {
		u.Route.Pref = t.peer.Pref
	}
	for _, p := range u.Announced {
		t.routes[p] = u.Route
		t.changed(p)
	}
	if len(t.routes) > t.peer.Limit {
		message.RefuseMore()
	}
}

// forget tells that all routes of the peer are gone.
func (t *turn) forget() {
	for p := range t.routes {
		t.changed(p)
	}
}

func (t *turn) changed(p route.Prefix) {
	t.report.Changed[p] = struct{}{}
}

// Offer is the route to a prefix that the peer told, if there is one and it is allowed.
func (s *Session) Offer(p route.Prefix) (o route.Offer, allowed bool) {
	r, told := s.routes[p]
	if !told || r.Path.Has(s.config.AS) || !p.Passes(s.peer.Import) {
		return route.Offer{}, false
	}
	return route.Offer{Route: r, Peer: s.place, External: s.external(), ID: s.number}, true
}
