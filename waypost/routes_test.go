package waypost

import (
	"cmp"
	"math/rand"
	"slices"
	"strings"
	"testing"

	"waypost/api"
)

const (
	ten    = "\x08\x0a"
	eleven = "\x08\x0b"
)

// inTwo is n in two bytes.
func inTwo(n int) string { return string([]byte{byte(n >> 8), byte(n)}) }

// news is an Update.
func news(withdrawn, attributes, announced string) string {
	return raw(api.Update, inTwo(len(withdrawn))+withdrawn+inTwo(len(attributes))+attributes+announced)
}

// attr is an attribute; its length has two bytes if the value is long.
func attr(flags, kind byte, value string) string {
	if len(value) > 255 {
		return string([]byte{flags | 16, kind}) + inTwo(len(value)) + value
	}
	return string([]byte{flags, kind, byte(len(value))}) + value
}

// needed are the attributes that each announcement has: an origin, a path, and the next hop 10.0.0.1.
func needed(origin byte, path string) string {
	return attr(64, 1, string([]byte{origin})) + attr(64, 2, path) + attr(64, 3, "\x0a\x00\x00\x01")
}

func metric(n byte) string { return attr(128, 4, "\x00\x00\x00"+string([]byte{n})) }
func pref(n byte) string   { return attr(64, 5, "\x00\x00\x00"+string([]byte{n})) }

// part is a segment as it is sent.
func part(kind byte, list ...int) string {
	s := string([]byte{kind, byte(len(list))})
	for _, as := range list {
		s += inTwo(as)
	}
	return s
}

func seq(list ...int) string { return part(2, list...) }

// four is a configuration of two external peers, which are liked alike, and two internal ones; they let everything in.
func four() api.Config {
	through := []api.Rule{{Permit: true, Le: 32}}
	return api.Config{AS: 65000, ID: 7, NextHop: 9, Peers: []api.Peer{
		{AS: 1, Limit: 9, Pref: 100, Import: through}, {AS: 2, Limit: 9, Pref: 100, Import: through},
		{AS: 65000, Limit: 9, Pref: 50, Import: through}, {AS: 65000, Limit: 9, Pref: 50, Import: through},
	}}
}

// meet lets a peer come to Established, with a number.
func meet(t *testing.T, s *Speaker, c api.Config, peer, id int) {
	t.Helper()
	s.Turn(0, []api.Input{connect(peer), comes(peer, open(c.Peers[peer].AS, 0, id)+alive)})
	if got := s.State(peer); got != api.Established {
		t.Fatalf("P10: State(%d): %d, want Established", peer, got)
	}
}

// begun is the speaker of c with all peers Established; of these the number is 9, 8, ..
func begun(t *testing.T, c api.Config) *Speaker {
	t.Helper()
	s := mustNew(t, c)
	for peer := range c.Peers {
		meet(t, s, c, peer, 9-peer)
	}
	return s
}

// hears lets data come from a peer at a turn at which nothing is sent.
func hears(t *testing.T, s *Speaker, peer int, data string) {
	t.Helper()
	turnSends(t, "an Update", s, 0, []api.Input{comes(peer, data)})
}

// checkBest fails the test if Best does not tell want.
func checkBest(t *testing.T, what string, s *Speaker, want ...api.Route) {
	t.Helper()
	if got := s.Best(); !slices.Equal(got, want) {
		t.Fatalf("P10: %s: Best is %+v, want %+v", what, got, want)
	}
}

// by is a route to ten by a peer that is liked 100, with the next hop of needed and no metric.
func by(peer, origin int, path string) api.Route {
	return api.Route{Addr: 10 << 24, Len: 8, Peer: peer, Pref: 100, Origin: origin, Path: path, NextHop: 10<<24 + 1, Metric: -1}
}

// to is the same to another prefix.
func to(addr uint32, n int, r api.Route) api.Route {
	r.Addr, r.Len = addr, n
	return r
}

// The document's example: 10.1.2.0 of 24 bits, by the path 65001.
func TestP10Example(t *testing.T) {
	s := mustNew(t, ordinary())
	s.Turn(0, []api.Input{connect(0), comes(0, open(65001, 30, 7)+alive)})
	s.Turn(0, []api.Input{comes(0, raw(api.Update, "\x00\x00\x00\x12\x40\x01\x01\x00\x40\x02\x04\x02\x01\xfd\xe9\x40\x03\x04\x0a\x00\x00\x01\x18\x0a\x01\x02"))})
	checkBest(t, "the document's", s, api.Route{Addr: 0x0a010200, Len: 24, Pref: 100, Path: "\x02\x01\xfd\xe9", NextHop: 0x0a000001, Metric: -1})
}

func TestP10AllThatIsTold(t *testing.T) {
	s := begun(t, four())
	hears(t, s, 3, news("", pref(7)+attr(128, 4, "\xff\xff\xff\xff")+attr(64, 3, "\xff\xff\xff\xfe")+attr(64, 2, part(1, 4, 5)+seq(6))+attr(64, 1, "\x02"), "\x20\xff\xff\xff\xff"))
	want := api.Route{Addr: 1<<32 - 1, Len: 32, Peer: 3, Pref: 7, Origin: 2, Path: part(1, 4, 5) + seq(6), NextHop: 1<<32 - 2, Metric: 1<<32 - 1}
	checkBest(t, "the greatest numbers", s, want)
	hears(t, s, 2, news("", needed(0, "")+metric(0)+attr(64, 5, "\xff\xff\xff\xff"), "\x00"))
	checkBest(t, "and the least ones", s, api.Route{Peer: 2, Pref: 1<<32 - 1, NextHop: 10<<24 + 1}, want)
}

func TestP10InTheOrderOfThePrefixes(t *testing.T) {
	c := four()
	c.Peers[0].Limit, c.Peers[1].Limit = 500, 500
	random := rand.New(rand.NewSource(6))
	s := begun(t, c)
	for range 40 {
		n := byte(random.Intn(33))
		hears(t, s, random.Intn(2), news("", needed(0, ""), string([]byte{n})+"\x80\x0a\x00\x01"[:(n+7)/8]+"\x10\x0a"+string([]byte{byte(random.Intn(256))})))
		list := s.Best()
		if !slices.IsSortedFunc(list, func(a, b api.Route) int {
			return cmp.Or(cmp.Compare(a.Addr, b.Addr), cmp.Compare(a.Len, b.Len))
		}) {
			t.Fatalf("P10: Best is out of order: %+v", list)
		}
	}
	if n := len(s.Best()); n < 20 {
		t.Errorf("P10: %d routes only", n)
	}
}

// Step 2 is behind all sessions' part: what one told and another withdrew at one turn is seen alike.
func TestP4BestBehindAllSessions(t *testing.T) {
	s := begun(t, four())
	turnSends(t, "two at one turn", s, 0, []api.Input{comes(1, news("", needed(0, seq(2)), ten)), comes(0, news("", needed(0, seq(1)), ten+eleven))})
	checkBest(t, "the lower number", s, by(1, 0, seq(2)), to(11<<24, 8, by(0, 0, seq(1))))
	turnSends(t, "and two", s, 0, []api.Input{comes(1, news(ten, needed(1, seq(2)), eleven)), comes(0, news(eleven, "", ""))})
	checkBest(t, "each by the other", s, by(0, 0, seq(1)), to(11<<24, 8, by(1, 1, seq(2))))
	turnSends(t, "told and taken away", s, 0, []api.Input{comes(0, news("", needed(0, ""), "\x00")+news("\x00", "", ""))})
	checkBest(t, "as it was", s, by(0, 0, seq(1)), to(11<<24, 8, by(1, 1, seq(2))))
}

func TestP4RoutesOfASessionThatEnds(t *testing.T) {
	c := four()
	for _, end := range []struct {
		name string
		in   api.Input
		out  []api.Output
	}{
		{"Reset", reset(0), nil},
		{"a Notification", comes(0, notice(6, 0, "")), []api.Output{closed(0, "")}},
		{"a refused Update", comes(0, news("", seq(1), ten)), []api.Output{closed(0, notice(3, 1, ""))}},
		{"too many prefixes", comes(0, news("", needed(0, ""), "\x01\x00\x02\x00\x03\x00\x04\x00\x05\x00\x06\x00\x07\x00\x08\x00")), []api.Output{closed(0, notice(6, 1, ""))}},
	} {
		s := begun(t, c)
		hears(t, s, 1, news("", needed(2, seq(2)), ten))
		hears(t, s, 0, news("", needed(0, seq(1)), ten+eleven))
		checkBest(t, "ahead of it", s, by(0, 0, seq(1)), to(11<<24, 8, by(0, 0, seq(1))))
		turnSends(t, end.name, s, 0, []api.Input{end.in, comes(0, news("", needed(0, ""), "\x00"))}, end.out...)
		checkBest(t, end.name, s, by(1, 2, seq(2)))
		meet(t, s, c, 0, 9)
		checkBest(t, end.name+", and it comes again", s, by(1, 2, seq(2)))
		hears(t, s, 0, news("", needed(1, seq(1)), ten))
		checkBest(t, end.name+", and it tells again", s, by(0, 1, seq(1)))
	}
}

// The number of the peer is that of the connection's own Open.
func TestP4NumberOfThisConnection(t *testing.T) {
	c := four()
	s := begun(t, c)
	for _, id := range []int{10, 3, 255, 1} {
		turnSends(t, "Reset", s, 0, []api.Input{reset(1)})
		meet(t, s, c, 1, id)
		hears(t, s, 0, news("", needed(0, seq(1)), ten))
		hears(t, s, 1, news("", needed(0, seq(2)), ten))
		want := by(0, 0, seq(1))
		if id < 9 {
			want = by(1, 0, seq(2))
		}
		checkBest(t, "the lower number", s, want)
	}
}

func TestP4ImportOfEachPeer(t *testing.T) {
	c := four()
	c.Peers[1].Import = []api.Rule{{Addr: 10 << 24, Len: 8, Ge: 8, Le: 8}, {Permit: true, Addr: 10 << 24, Len: 7, Ge: 8, Le: 9}}
	c.Peers[0].Import = nil
	s := begun(t, c)
	for peer := range 2 {
		hears(t, s, peer, news("", needed(0, seq(5)), ten+eleven+"\x07\x0a\x09\x0a\x80\x0a\x0a\x40\x08\x0c"))
	}
	checkBest(t, "what passes", s, to(10<<24+1<<23, 9, by(1, 0, seq(5))), to(11<<24, 8, by(1, 0, seq(5))))
}

// spoilRoutes writes over a list, its spare room too.
func spoilRoutes(list []api.Route) {
	list = list[:cap(list)]
	for i := range list {
		list[i] = api.Route{Addr: 3, Path: "spoilt", Metric: -9}
	}
}

func TestP2BestIsTheCallers(t *testing.T) {
	s := begun(t, four())
	hears(t, s, 0, news("", needed(0, seq(1)), ten+eleven+"\x00"))
	kept := s.Best()
	before := slices.Clone(kept)
	spoilRoutes(s.Best())
	checkBest(t, "behind the writing", s, before...)
	hears(t, s, 0, news(ten, needed(1, seq(3)), eleven))
	spoilRoutes(s.Best())
	if !slices.Equal(kept, before) {
		t.Errorf("P2: the routes became %+v, were %+v", kept, before)
	}
	checkBest(t, "behind all", s, to(0, 0, by(0, 0, seq(1))), to(11<<24, 8, by(0, 1, seq(3))))
}

// What one speaker hears is no other's affair.
func TestP2RoutesOfOneSpeaker(t *testing.T) {
	one, other := begun(t, four()), begun(t, four())
	hears(t, one, 0, news("", needed(0, seq(1)), ten))
	hears(t, other, 1, news("", needed(0, seq(2)), eleven))
	checkBest(t, "one", one, by(0, 0, seq(1)))
	checkBest(t, "the other", other, to(11<<24, 8, by(1, 0, seq(2))))
}

// heard is a route as the test itself keeps it: of a peer, with the path's parts.
type heard struct {
	peer, pref, origin, length, neighbour int
	metric                                int64 // below 0: none
	loops                                 bool
	path                                  string
}

// ways are paths, and what the document says of them: their length, neighbour, and whether 65000 is in them.
var ways = []heard{
	{path: ""}, {path: seq(1), length: 1, neighbour: 1}, {path: seq(2), length: 1, neighbour: 2}, {path: part(1, 1, 2), length: 1},
	{path: seq(1, 2), length: 2, neighbour: 1}, {path: seq(2, 65000), length: 2, neighbour: 2, loops: true}, {path: part(1, 65000), length: 1, loops: true},
	{path: part(1, 7, 8) + seq(1), length: 2}, {path: seq(2) + part(1, 5, 6, 7), length: 2, neighbour: 2},
}

// stays is those of the list that no other beats.
func stays(list []heard, beats func(a, b heard) bool) []heard {
	return slices.DeleteFunc(slices.Clone(list), func(b heard) bool {
		return slices.ContainsFunc(list, func(a heard) bool { return beats(a, b) })
	})
}

// plainBest is the document's list, word by word, for the peers of four with the numbers 9, 8, ..
func plainBest(list []heard) heard {
	external := func(h heard) bool { return h.peer < 2 }
	list = stays(list, func(a, b heard) bool { return a.pref > b.pref })
	list = stays(list, func(a, b heard) bool { return a.length < b.length })
	list = stays(list, func(a, b heard) bool { return a.origin < b.origin })
	list = stays(list, func(a, b heard) bool { return a.neighbour == b.neighbour && max(a.metric, 0) < max(b.metric, 0) })
	list = stays(list, func(a, b heard) bool { return external(a) && !external(b) })
	list = stays(list, func(a, b heard) bool { return a.peer > b.peer })
	return list[0]
}

// tells is a random Update of a peer of four, of the prefixes of eight bits, and what it does to the routes that the peer told.
func tells(random *rand.Rand, peer int, routes map[byte]heard) string {
	h := ways[random.Intn(len(ways))]
	h.peer, h.pref, h.origin, h.metric = peer, 100, random.Intn(3), int64(random.Intn(3)-1)
	attributes := needed(byte(h.origin), h.path)
	if h.metric >= 0 {
		attributes += metric(byte(h.metric))
	}
	if peer >= 2 {
		h.pref = 99 + random.Intn(3)
		attributes += pref(byte(h.pref))
	}
	var withdrawn, announced strings.Builder
	for range random.Intn(3) {
		first := byte(random.Intn(4))
		withdrawn.WriteString("\x08" + string([]byte{first}))
		delete(routes, first)
	}
	for range random.Intn(3) {
		first := byte(random.Intn(4))
		announced.WriteString("\x08" + string([]byte{first}))
		routes[first] = h
	}
	return news(withdrawn.String(), attributes, announced.String())
}

// Random Updates and Resets, against a plain reading of the document.
func TestP10BestOfRandomRoutes(t *testing.T) {
	random := rand.New(rand.NewSource(7))
	c := four()
	for range 100 {
		s := begun(t, c)
		told := make([]map[byte]heard, 4)
		for peer := range told {
			told[peer] = map[byte]heard{}
		}
		for range 40 {
			var in []api.Input
			for range random.Intn(4) {
				peer := random.Intn(4)
				in = append(in, comes(peer, tells(random, peer, told[peer])))
			}
			if random.Intn(10) == 0 {
				peer := random.Intn(4)
				in = append(in, reset(peer))
				clear(told[peer])
			}
			turnSends(t, "random Updates", s, 1, in)
			checkBest(t, "random Updates", s, wantBest(told)...)
			for peer := range told {
				if s.State(peer) == api.Idle {
					meet(t, s, c, peer, 9-peer)
				}
			}
		}
	}
}

// wantBest is what Best must tell of what the peers have told.
func wantBest(told []map[byte]heard) []api.Route {
	var want []api.Route
	for first := range byte(4) {
		var list []heard
		for _, routes := range told {
			if h, ok := routes[first]; ok && !h.loops {
				list = append(list, h)
			}
		}
		if len(list) > 0 {
			h := plainBest(list)
			want = append(want, api.Route{Addr: uint32(first) << 24, Len: 8, Peer: h.peer, Pref: h.pref, Origin: h.origin, Path: h.path, NextHop: 10<<24 + 1, Metric: h.metric})
		}
	}
	return want
}

// A great many prefixes, told one Update after the other, and taken away at once.
func TestP1ManyPrefixes(t *testing.T) {
	c := four()
	c.Peers[0].Limit, c.Peers[1].Limit = 1<<20, 1<<20
	s := begun(t, c)
	checkEnds(t, "Turn", func() {
		for i := range 200 {
			var list strings.Builder
			for j := range 900 {
				list.WriteString("\x18" + string([]byte{byte(i), byte(j >> 8), byte(j)}))
			}
			hears(t, s, i%2, news("", needed(0, seq(i)), list.String()))
		}
		if n := len(s.Best()); n != 180000 {
			t.Errorf("P10: %d best routes, want 180000", n)
		}
		turnSends(t, "Reset", s, 0, []api.Input{reset(0), reset(1)})
		checkBest(t, "Reset", s)
	})
}
