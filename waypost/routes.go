package waypost

import (
	"waypost/api"
	"waypost/route"
	"waypost/session"
)

// choose chooses anew the best route to each prefix to which a peer's route may be another one.
func (s *Speaker) choose(reports []session.Report) {
	for _, r := range reports {
		for p := range r.Changed {
			s.chooseFor(p)
		}
	}
}

func (s *Speaker) chooseFor(p route.Prefix) {
	if offers := s.offers(p); len(offers) > 0 {
		s.best[p] = route.Best(offers)
	} else {
		delete(s.best, p)
	}
}

// offers are the allowed routes to a prefix, in the order of the peers.
func (s *Speaker) offers(p route.Prefix) []route.Offer {
	var list []route.Offer
	for i := range s.sessions {
		if o, allowed := s.sessions[i].Offer(p); allowed {
			o.Peer = i
			list = append(list, o)
		}
	}
	return list
}

// asRoute is a best route as the caller is told of it.
func asRoute(p route.Prefix, o route.Offer) api.Route {
	return api.Route{
		Addr: p.Addr, Len: p.Len, Peer: o.Peer,
		Pref: o.Pref, Origin: o.Origin, Path: string(o.Path), NextHop: o.NextHop, Metric: o.Metric,
	}
}
