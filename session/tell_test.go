package session

import (
	"strings"
	"testing"

	"waypost/api"
	"waypost/route"
)

// chosen are best routes to ten and eleven, of an external peer that is not the session's own, by a path of one AS.
func chosen(as int) map[route.Prefix]route.Offer {
	o := route.Offer{Peer: 5, External: true, Route: route.Route{Pref: 7, Origin: 2, Path: route.Path("\x02\x01" + string([]byte{byte(as >> 8), byte(as)})), NextHop: 0x0a000001, Metric: route.NoMetric}}
	return map[route.Prefix]route.Offer{ofTen: o, ofEleven: o}
}

// inner is what an internal peer is told of chosen(as).
func inner(as int, announced string) string { return news("", as, pref, announced) }

// gone is an Update that withdraws.
func gone(withdrawn string) string {
	return raw(api.Update, string([]byte{0, byte(len(withdrawn))})+withdrawn+"\x00\x00")
}

var both = []route.Prefix{ofEleven, ofTen}

// checkTold fails the test if the peer is told other Updates than want.
func checkTold(t *testing.T, what string, s *Session, now int, best map[route.Prefix]route.Offer, changed []route.Prefix, want string) {
	t.Helper()
	if got := s.Tell(now, best, changed); got != want {
		t.Fatalf("P4: %s: told %x, want %x", what, got, want)
	}
}

// A peer is told in Established alone.
func TestP5ToldInEstablishedAlone(t *testing.T) {
	for state := api.Idle; state < api.Established; state++ {
		s := with(api.Peer{AS: 9, Export: through})
		s.Turn(0, []api.Input{connect, comes(open(9, 0)), comes(alive)}[:state])
		if s.State() != state {
			t.Fatalf("P4: state %d, want %d", s.State(), state)
		}
		checkTold(t, "too early", &s, 0, chosen(3), both, "")
	}
}

func TestP4ToldOfWhatChanged(t *testing.T) {
	s := settled(t, api.Peer{AS: 65000, Export: through})
	checkTold(t, "all at first", s, 0, chosen(3), nil, inner(3, ten+eleven))
	checkTold(t, "nothing", s, 0, chosen(3), nil, "")
	checkTold(t, "as it was", s, 0, chosen(3), both, "")
	checkTold(t, "others", s, 0, chosen(4), both, inner(4, ten+eleven))
	checkTold(t, "none", s, 0, nil, both, gone(ten+eleven))
	checkTold(t, "none still", s, 0, nil, both, "")
	if len(s.told) != 0 || len(s.recent) != 0 {
		t.Errorf("P2: kept: %+v and %+v, want nothing", s.told, s.recent)
	}
}

func TestP6NotToldOfItsOwn(t *testing.T) {
	for _, c := range []struct {
		name     string
		as       int
		place    int
		external bool
		told     bool
	}{
		{"external, its own", 9, 0, true, false}, {"external, of an external one", 9, 1, true, true}, {"external, of an internal one", 9, 1, false, true},
		{"internal, its own", 65000, 0, false, false}, {"internal, of an external one", 65000, 1, true, true}, {"internal, of an internal one", 65000, 1, false, false},
	} {
		s := settled(t, api.Peer{AS: c.as, Export: through})
		best := chosen(3)
		o := best[ofTen]
		o.Peer, o.External = c.place, c.external
		got := s.Tell(0, map[route.Prefix]route.Offer{ofTen: o}, nil)
		if (got != "") != c.told {
			t.Errorf("P6: %s: told %x, want told %v", c.name, got, c.told)
		}
		if c.told && (c.as == 9) != strings.Contains(got, "\x40\x02\x06\x02\x02\xfd\xe8\x00\x03\x40\x03\x04\x0a\x0a\x0a\x0a") {
			t.Errorf("P6: %s: told %x", c.name, got)
		}
	}
}

// What is kept of an announcement is kept no longer than it counts.
func TestP7WhatIsKept(t *testing.T) {
	s := settled(t, api.Peer{AS: 65000, Wait: 10, Export: through})
	checkTold(t, "announced", s, 5, chosen(3), nil, inner(3, ten+eleven))
	checkTold(t, "changed", s, 14, chosen(4), both, "")
	checkTold(t, "withdrawn", s, 14, nil, both, gone(ten+eleven))
	if len(s.told) != 2 || len(s.recent) != 2 {
		t.Errorf("P7: kept: %+v and %+v, want both prefixes", s.told, s.recent)
	}
	checkTold(t, "ten ticks", s, 15, nil, nil, "")
	if len(s.told) != 0 || len(s.recent) != 0 {
		t.Errorf("P7: kept: %+v and %+v, want nothing", s.told, s.recent)
	}
	checkTold(t, "at once", s, 15, chosen(3), both, inner(3, ten+eleven))
	s.Turn(15, []api.Input{reset})
	if s.told != nil || len(s.recent) != 0 {
		t.Errorf("P7: kept behind the session: %+v and %+v", s.told, s.recent)
	}
}

// Of a prefix that has waited, what is to be told then is looked at.
func TestP8WhatHasWaited(t *testing.T) {
	s := settled(t, api.Peer{AS: 65000, Wait: 1000, Export: through})
	checkTold(t, "announced", s, 0, chosen(3), nil, inner(3, ten+eleven))
	checkTold(t, "changed", s, 1, chosen(4), both, "")
	checkTold(t, "changed again", s, 998, chosen(5), both, "")
	checkTold(t, "a tick less", s, 999, chosen(5), nil, "")
	checkTold(t, "the wait", s, 1000, chosen(5), nil, inner(5, ten+eleven))
	checkTold(t, "no more", s, 5000, chosen(5), nil, "")
}

// Updates are something that was sent; a turn at which none is sent is not.
func TestP4UpdatesPutKeepalivesOff(t *testing.T) {
	s := with(api.Peer{AS: 9, Hold: 30, Export: through})
	s.Turn(0, []api.Input{connect, comes(open(9, 30) + alive)})
	checkTold(t, "nothing", &s, 5, nil, nil, "")
	turnSends(t, "a third", &s, 10, alive, false, api.Established, comes(alive))
	if got := s.Tell(15, chosen(3), both); got == "" {
		t.Fatalf("P4: not told")
	}
	turnSends(t, "a third since the Keepalive", &s, 20, "", false, api.Established, comes(alive))
	turnSends(t, "a third since the Update", &s, 25, alive, false, api.Established, comes(alive))
}
