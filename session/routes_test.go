package session

import (
	"testing"

	"waypost/api"
	"waypost/route"
)

// news is an Update with the attributes Origin, Path (of one AS) and NextHop, and more of them.
func news(withdrawn string, as int, more, announced string) string {
	list := "\x40\x01\x01\x02" + "\x40\x02\x04\x02\x01" + string([]byte{byte(as >> 8), byte(as)}) + "\x40\x03\x04\x0a\x00\x00\x01" + more
	return raw(api.Update, string([]byte{0, byte(len(withdrawn))})+withdrawn+string([]byte{0, byte(len(list))})+list+announced)
}

const (
	ten    = "\x08\x0a"
	eleven = "\x08\x0b"
	pref   = "\x40\x05\x04\x00\x00\x00\x07"
)

var (
	ofTen    = route.Prefix{Addr: 10 << 24, Len: 8}
	ofEleven = route.Prefix{Addr: 11 << 24, Len: 8}
	through  = []api.Rule{{Permit: true, Le: 32}}
)

// settled is a session with such a peer, Established; the peer's number is 7.
func settled(t *testing.T, peer api.Peer) *Session {
	t.Helper()
	s := with(peer)
	s.Turn(0, []api.Input{connect, comes(raw(api.Open, string([]byte{4, byte(peer.AS >> 8), byte(peer.AS), 0, 0, 0, 0, 0, 7, 0})) + alive)})
	if s.State() != api.Established {
		t.Fatalf("P4: state %d, want Established", s.State())
	}
	return &s
}

// checkOffer fails the test if the session's route to a prefix is not by this AS, or one is offered where as is 0.
func checkOffer(t *testing.T, what string, s *Session, p route.Prefix, as int) {
	t.Helper()
	o, allowed := s.Offer(p)
	if allowed != (as != 0) || o.Path.Neighbour() != as {
		t.Fatalf("P4: %s: the offer %+v, %v, want one by %d", what, o, allowed, as)
	}
}

// checkChanged fails the test if a prefix is not among those that changed.
func checkChanged(t *testing.T, what string, r Report, want ...route.Prefix) {
	t.Helper()
	for _, p := range want {
		if _, ok := r.Changed[p]; !ok {
			t.Errorf("P4: %s: changed %+v, want %+v", what, r.Changed, want)
		}
	}
}

func TestP4WhatIsOffered(t *testing.T) {
	for _, c := range []struct {
		name string
		peer api.Peer
		more string
		want route.Offer
	}{
		{"external", api.Peer{AS: 9, Limit: 1, Pref: 100, Import: through}, "", route.Offer{External: true, ID: 7, Route: route.Route{Pref: 100, Metric: -1}}},
		{"external, with LocalPref and metric", api.Peer{AS: 9, Limit: 1, Pref: 100, Import: through}, "\x80\x04\x04\x00\x00\x01\x00" + pref, route.Offer{External: true, ID: 7, Route: route.Route{Pref: 100, Metric: 256}}},
		{"external, not liked", api.Peer{AS: 9, Limit: 1, Import: through}, pref, route.Offer{External: true, ID: 7, Route: route.Route{Metric: -1}}},
		{"internal", api.Peer{AS: 65000, Limit: 1, Pref: 100, Import: through}, pref, route.Offer{ID: 7, Route: route.Route{Pref: 7, Metric: -1}}},
	} {
		s := settled(t, c.peer)
		s.Turn(0, []api.Input{comes(news("", 5, c.more, ten))})
		c.want.Origin, c.want.Path, c.want.NextHop = 2, "\x02\x01\x00\x05", 10<<24+1
		if got, allowed := s.Offer(ofTen); !allowed || got != c.want {
			t.Errorf("P4: %s: the offer %+v, %v, want %+v", c.name, got, allowed, c.want)
		}
	}
}

func TestP4TakenIn(t *testing.T) {
	s := settled(t, api.Peer{AS: 9, Limit: 5, Import: through})
	checkOffer(t, "at first", s, ofTen, 0)
	turnSends(t, "announced", s, 0, "", false, api.Established, comes(news("", 1, "", ten+eleven)))
	checkOffer(t, "announced", s, ofTen, 1)
	checkOffer(t, "announced", s, ofEleven, 1)
	checkOffer(t, "not announced", s, route.Prefix{Addr: 10 << 24, Len: 9}, 0)
	turnSends(t, "in place of it", s, 0, "", false, api.Established, comes(news("", 2, "", ten)))
	checkOffer(t, "in place of it", s, ofTen, 2)
	checkOffer(t, "the other", s, ofEleven, 1)
	turnSends(t, "withdrawn", s, 0, "", false, api.Established, comes(news(ten+"\x00", 3, "", "")))
	checkOffer(t, "withdrawn", s, ofTen, 0)
	checkOffer(t, "the other", s, ofEleven, 1)
	turnSends(t, "withdrawn and announced", s, 0, "", false, api.Established, comes(news(ten+eleven, 4, "", eleven)))
	checkOffer(t, "withdrawn", s, ofTen, 0)
	checkOffer(t, "withdrawn and announced", s, ofEleven, 4)
	turnSends(t, "two Updates", s, 0, "", false, api.Established, comes(news("", 5, "", ten)+news(eleven, 6, "", ten)))
	checkOffer(t, "two Updates", s, ofTen, 6)
	checkOffer(t, "two Updates", s, ofEleven, 0)
}

// What is refused is taken in nowhere, and all that was is gone.
func TestP4GoneWithTheSession(t *testing.T) {
	for _, c := range []struct {
		name   string
		in     api.Input
		sent   string
		closed bool
	}{
		{"Reset", reset, "", false},
		{"a Notification", comes(notice(6, 2, "")), "", true},
		{"what does not belong", comes(open(9, 30)), notice(5, 0, ""), true},
		{"a refused Update", comes(news("\x21", 1, "", ten)), notice(3, 10, ""), true},
		{"a refused Update, at its end", comes(news(ten, 1, "", ten+"\x21")), notice(3, 10, ""), true},
		{"too many", comes(news("", 1, "", "\x00\x01\x00\x02\x00\x03\x00")), notice(6, 1, ""), true},
	} {
		s := settled(t, api.Peer{AS: 9, Limit: 5, Import: through})
		s.Turn(0, []api.Input{comes(news("", 1, "", ten+eleven))})
		r := s.Turn(0, []api.Input{c.in, comes(news("", 1, "", ten))})
		if string(r.Sent) != c.sent || r.Closed != c.closed {
			t.Errorf("P4: %s: sends %x, closed %v, want %x, %v", c.name, r.Sent, r.Closed, c.sent, c.closed)
		}
		checkOffer(t, c.name, s, ofTen, 0)
		checkOffer(t, c.name, s, ofEleven, 0)
		checkChanged(t, c.name, r, ofTen, ofEleven)
		s.Turn(0, []api.Input{connect, comes(open(9, 30) + alive)})
		checkOffer(t, c.name+", and Established anew", s, ofTen, 0)
	}
}

func TestP4SilenceEndsRoutes(t *testing.T) {
	s := with(api.Peer{AS: 9, Hold: 9, Limit: 5, Import: through})
	s.Turn(0, []api.Input{connect, comes(open(9, 9) + alive + news("", 1, "", ten))})
	checkOffer(t, "ahead of it", &s, ofTen, 1)
	r := s.Turn(9, nil)
	checkOffer(t, "silence", &s, ofTen, 0)
	checkChanged(t, "silence", r, ofTen)
}

func TestP4Limit(t *testing.T) {
	three := ten + eleven + "\x00"
	for _, c := range []struct {
		name  string
		limit int
		data  string
		may   bool
	}{
		{"none of none", 0, news(ten, 1, "", ""), true},
		{"one of none", 0, news("", 1, "", ten), false},
		{"three of three", 3, news("", 1, "", three), true},
		{"three of two", 2, news("", 1, "", three), false},
		{"three of two, one by one", 2, news("", 1, "", ten) + news("", 1, "", eleven) + news("", 1, "", "\x00"), false},
		{"two of two, again and again", 2, news("", 1, "", ten+eleven+ten+eleven) + news("", 2, "", ten+eleven+ten), true},
		{"two of two, bits behind the length", 2, news("", 1, "", "\x04\x10\x04\x11\x04\x1f\x04\x20"), true},
		{"as many as are withdrawn", 2, news("", 1, "", ten+eleven) + news(ten, 1, "", "\x00"), true},
		{"more than are withdrawn", 2, news("", 1, "", ten+eleven) + news("\x00", 1, "", "\x00"), false},
		{"more for the time of an Update", 2, news("", 1, "", three) + news(ten, 1, "", ""), false},
	} {
		s := settled(t, api.Peer{AS: 9, Limit: c.limit, Import: through})
		if c.may {
			turnSends(t, c.name, s, 0, "", false, api.Established, comes(c.data))
		} else {
			turnSends(t, c.name, s, 0, notice(6, 1, ""), true, api.Idle, comes(c.data+alive))
		}
	}
}

// Routes that are not allowed count for the Limit too.
func TestP4LimitOfRoutesThatAreNotAllowed(t *testing.T) {
	s := settled(t, api.Peer{AS: 9, Limit: 1})
	turnSends(t, "two that do not pass", s, 0, notice(6, 1, ""), true, api.Idle, comes(news("", 65000, "", ten+eleven)))
}

func TestP4Allowed(t *testing.T) {
	s := settled(t, api.Peer{AS: 9, Limit: 5, Import: []api.Rule{{Permit: true, Addr: 10 << 24, Len: 8, Ge: 8, Le: 8}}})
	s.Turn(0, []api.Input{comes(news("", 1, "", ten+eleven))})
	checkOffer(t, "what passes", s, ofTen, 1)
	checkOffer(t, "what does not", s, ofEleven, 0)
	s.Turn(0, []api.Input{comes(news("", 65000, "", ten))})
	checkOffer(t, "by the speaker's AS", s, ofTen, 0)
	s.Turn(0, []api.Input{comes(news("", 64999, "", ten))})
	checkOffer(t, "by another one", s, ofTen, 64999)
	s = settled(t, api.Peer{AS: 9, Limit: 5})
	s.Turn(0, []api.Input{comes(news("", 1, "", ten))})
	checkOffer(t, "no Import", s, ofTen, 0)
}

// An internal peer is one of the speaker's own AS: only it must tell LocalPref.
func TestP4WhoIsInternal(t *testing.T) {
	s := settled(t, api.Peer{AS: 65000, Limit: 5, Import: through})
	turnSends(t, "no LocalPref", s, 0, notice(3, 3, "\x05"), true, api.Idle, comes(news("", 1, "", ten)))
	s = settled(t, api.Peer{AS: 64999, Limit: 5, Import: through})
	turnSends(t, "no LocalPref", s, 0, "", false, api.Established, comes(news("", 1, "", ten)))
}
