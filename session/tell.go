package session

import (
	"maps"
	"slices"
	"strings"

	"waypost/api"
	"waypost/message"
	"waypost/route"
)

// announcement is how a prefix is announced, and when.
type announcement struct {
	attributes string // as they are sent; none if the prefix was withdrawn since
	at         int
}

// timed is a prefix, and when it was announced.
type timed struct {
	prefix route.Prefix
	at     int
}

// group is prefixes that are announced with the same attributes.
type group struct {
	attributes string
	prefixes   []route.Prefix
}

// telling is a session that tells its peer at one turn.
type telling struct {
	*Session
	now  int
	best map[route.Prefix]route.Offer

	ready     map[route.Route]announcement // how routes would be announced now; many prefixes share one
	withdrawn []route.Prefix
	groups    []group        // in the order of their first prefixes
	places    map[string]int // of attributes in the groups
}

// Tell tells the peer, if it is Established, what has changed since it was told last, and answers the Updates that are sent. Changed are the prefixes to which another route is the best than at the turn before.
func (s *Session) Tell(now int, best map[route.Prefix]route.Offer, changed []route.Prefix) string {
	if s.state != api.Established {
		return ""
	}
	t := &telling{Session: s, now: now, best: best, ready: map[route.Route]announcement{}, places: map[string]int{}}
	for _, p := range t.due(changed) {
		t.look(p)
	}
	updates := t.updates()
	if updates != "" {
		s.spoke = now
	}
	return updates
}

// due is the prefixes that must be looked at, in their order: at first all, then those that changed, and those that have waited.
func (t *telling) due(changed []route.Prefix) []route.Prefix {
	var list []route.Prefix
	if t.told == nil {
		t.told = map[route.Prefix]announcement{}
		list = slices.Collect(maps.Keys(t.best))
	} else {
		list = slices.Concat(changed, t.waited())
	}
	slices.SortFunc(list, route.Prefix.Compare)
	return slices.Compact(list)
}

// waited takes away the prefixes of which Wait ticks have gone by since they were announced. No other one that waits can be announced yet, so that only these need be looked at anew.
func (t *telling) waited() []route.Prefix {
	var list []route.Prefix
	for len(t.recent) > 0 && t.now-t.recent[0].at >= t.peer.Wait {
		list = append(list, t.recent[0].prefix)
		t.recent = t.recent[1:]
	}
	return list
}

// look settles what the peer is told of a prefix.
func (t *telling) look(p route.Prefix) {
	next, toBeTold := t.next(p)
	switch {
	case !toBeTold:
		t.withdraw(p)
	case next.attributes != t.told[p].attributes && !t.waits(p):
		t.announce(p, next)
	}
}

// next is how a prefix would be announced to the peer now, if the peer is to be told of it.
func (t *telling) next(p route.Prefix) (next announcement, toBeTold bool) {
	o, chosen := t.best[p]
	if !chosen || !t.mayHear(o) || !p.Passes(t.peer.Export) {
		return announcement{}, false
	}
	next = t.write(o.Route)
	return next, message.Fits(next.attributes, p)
}

// mayHear says whether the peer may be told of a route at all.
func (t *telling) mayHear(o route.Offer) bool {
	return o.Peer != t.place && (o.External || t.external())
}

// write is how a route would be announced to the peer now.
func (t *telling) write(r route.Route) announcement {
	a, done := t.ready[r]
	if !done {
		a = announcement{message.Attributes(t.asTold(r), !t.external()), t.now}
		t.ready[r] = a
	}
	return a
}

// asTold is a route as the peer is told of it: to an external one it goes by the speaker.
func (t *telling) asTold(r route.Route) route.Route {
	if t.external() {
		r.Path = r.Path.Ahead(t.config.AS)
		r.NextHop = t.config.NextHop
		r.Metric = route.NoMetric
	}
	return r
}

// waits says whether it is too early to announce a prefix again.
func (t *telling) waits(p route.Prefix) bool {
	last, announced := t.told[p]
	return announced && t.now-last.at < t.peer.Wait
}

// withdraw withdraws a prefix, if it was told. When it was announced is kept as long as that counts.
func (t *telling) withdraw(p route.Prefix) {
	last := t.told[p]
	if last.attributes != "" {
		t.withdrawn = append(t.withdrawn, p)
	}
	if t.waits(p) {
		t.told[p] = announcement{at: last.at}
	} else {
		delete(t.told, p)
	}
}

// announce sets a prefix into the group of its attributes.
func (t *telling) announce(p route.Prefix, next announcement) {
	at, begun := t.places[next.attributes]
	if !begun {
		at = len(t.groups)
		t.places[next.attributes] = at
		t.groups = append(t.groups, group{attributes: next.attributes})
	}
	t.groups[at].prefixes = append(t.groups[at].prefixes, p)

	t.told[p] = next
	if t.peer.Wait > 0 {
		t.recent = append(t.recent, timed{p, t.now})
	}
}

// updates is what is sent.
func (t *telling) updates() string {
	var all strings.Builder
	all.WriteString(message.Withdraw(t.withdrawn))
	for _, g := range t.groups {
		all.WriteString(message.Announce(g.attributes, g.prefixes))
	}
	return all.String()
}
