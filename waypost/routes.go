package waypost

import (
	"waypost/api"
	"waypost/route"
	"waypost/session"
)

// choose chooses anew the best route to each prefix to which a peer's route may be another one, and answers the prefixes to which another one is the best now. They are in no order.
func (s *Speaker) choose(reports []session.Report) []route.Prefix {
	var changed []route.Prefix
	for _, r := range reports {
		for p := range r.Changed {
			if s.chooseFor(p) {
				changed = append(changed, p)
			}
		}
	}
	return changed
}

// chooseFor says whether another route to the prefix is the best now, or there is none any more.
func (s *Speaker) chooseFor(p route.Prefix) bool {
	before, was := s.best[p]
	offers := s.offers(p)
	if len(offers) == 0 {
		delete(s.best, p)
		return was
	}
	s.best[p] = route.Best(offers)
	return !was || s.best[p] != before
}

// tell tells each peer what has changed for it, and adds it to what the sessions sent.
func (s *Speaker) tell(changed []route.Prefix, reports []session.Report) {
	for i := range s.sessions {
		updates := s.sessions[i].Tell(s.now, s.best, changed)
		reports[i].Sent = append(reports[i].Sent, updates...)
	}
}

// offers are the allowed routes to a prefix, in the order of the peers.
func (s *Speaker) offers(p route.Prefix) []route.Offer {
	var list []route.Offer
	for i := range s.sessions {
		if o, allowed := s.sessions[i].Offer(p); allowed {
			list = append(list, o)
		}
	}
	return list
}

// asRoute is a best route as the caller is told of it.
func asRoute(p route.Prefix, o route.Offer) api.Route {
	return api.Route{
		Addr: p.Addr, Len: p.Len, Peer: o.Peer,
		Pref: o.Pref, Origin: o.Origin, Path: string(o.Path), NextHop: o.NextHop, Metric: o.Metric,
	}
}
