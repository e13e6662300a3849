package waypost

import (
	"cmp"
	"maps"
	"math/rand"
	"slices"
	"strings"
	"testing"

	"waypost/api"
)

const twelve = "\x08\x0c"

// five is a configuration of three external peers and two internal ones that let everything in and out.
func five() api.Config {
	c := api.Config{AS: 65000, ID: 7, NextHop: 0x01020304}
	for _, as := range []int{1, 2, 300, 65000, 65000} {
		through := []api.Rule{{Permit: true, Le: 32}}
		c.Peers = append(c.Peers, api.Peer{AS: as, Limit: 5000, Pref: 100, Import: through, Export: slices.Clone(through)})
	}
	return c
}

// outside are the attributes that external peers of five are told.
func outside(origin byte, path string) string {
	return attr(64, 1, string([]byte{origin})) + attr(64, 2, path) + attr(64, 3, "\x01\x02\x03\x04")
}

// inside are those that internal ones are told, of a route with the next hop of needed, without a metric.
func inside(origin byte, path string) string { return needed(origin, path) + pref(100) }

// toAll is the same for each of some peers.
func toAll(data string, peers ...int) []api.Output {
	var list []api.Output
	for _, peer := range peers {
		list = append(list, sent(peer, data))
	}
	return list
}

// The document's example.
func TestP4ExampleOfTelling(t *testing.T) {
	c := api.Config{AS: 65000, ID: 1, NextHop: 0xc0000201}
	for _, as := range []int{65001, 65002} {
		c.Peers = append(c.Peers, api.Peer{AS: as, Hold: 90, Limit: 5, Pref: 100, Import: []api.Rule{{Permit: true, Le: 32}}, Export: []api.Rule{{Permit: true, Le: 32}}})
	}
	s := begun(t, c)
	turnSends(t, "the document's", s, 0, []api.Input{comes(0, news("", "\x40\x01\x01\x00\x40\x02\x04\x02\x01\xfd\xe9\x40\x03\x04\x0a\x00\x00\x01", "\x18\x0a\x01\x02"))},
		sent(1, mark+"\x00\x2f\x02"+"\x00\x00"+"\x00\x14"+"\x40\x01\x01\x00"+"\x40\x02\x06\x02\x02\xfd\xe8\xfd\xe9"+"\x40\x03\x04\xc0\x00\x02\x01"+"\x18\x0a\x01\x02"))
}

// All others are told of an external peer's route, and of an internal peer's all external ones.
func TestP6WhoIsTold(t *testing.T) {
	for peer := range 5 {
		s := begun(t, five())
		in, inner := news("", needed(1, seq(9)), ten), news("", inside(1, seq(9)), ten)
		outer := news("", outside(1, seq(65000, 9)), ten)
		var want []api.Output
		for other := range 5 {
			switch {
			case other == peer || other >= 3 && peer >= 3:
			case other >= 3:
				want = append(want, sent(other, inner))
			default:
				want = append(want, sent(other, outer))
			}
		}
		if peer >= 3 {
			in = inner
		}
		turnSends(t, "a route", s, 0, []api.Input{comes(peer, in)}, want...)
		turnSends(t, "the same again", s, 0, []api.Input{comes(peer, in)})
		for i := range want {
			want[i].Data = news(ten, "", "")
		}
		turnSends(t, "it is gone", s, 0, []api.Input{reset(peer)}, want...)
	}
}

// A peer whose own route becomes the best is told no longer of the one of another.
func TestP6OwnRoutesAreWithdrawn(t *testing.T) {
	s := begun(t, five())
	turnSends(t, "the first", s, 0, []api.Input{comes(0, news("", needed(1, seq(1)), ten))},
		append(toAll(news("", outside(1, seq(65000, 1)), ten), 1, 2), toAll(news("", inside(1, seq(1)), ten), 3, 4)...)...)
	turnSends(t, "a worse one", s, 0, []api.Input{comes(1, news("", needed(2, seq(2)), ten))})
	turnSends(t, "it becomes a better one", s, 0, []api.Input{comes(1, news("", needed(0, seq(2)), ten))},
		sent(0, news("", outside(0, seq(65000, 2)), ten)), sent(1, news(ten, "", "")), sent(2, news("", outside(0, seq(65000, 2)), ten)),
		sent(3, news("", inside(0, seq(2)), ten)), sent(4, news("", inside(0, seq(2)), ten)))
	turnSends(t, "an internal one", s, 0, []api.Input{comes(4, news("", needed(0, "")+pref(200), ten))},
		sent(0, news("", outside(0, seq(65000)), ten)), sent(1, news("", outside(0, seq(65000)), ten)), sent(2, news("", outside(0, seq(65000)), ten)),
		sent(3, news(ten, "", "")), sent(4, news(ten, "", "")))
}

// A peer whose AS stands in the path is told all the same: the document rules out only what came from itself.
func TestP6ThePeersASInThePath(t *testing.T) {
	s := begun(t, five())
	turnSends(t, "a path by all", s, 0, []api.Input{comes(0, news("", needed(0, seq(1, 2, 300)), ten))},
		append(toAll(news("", outside(0, seq(65000, 1, 2, 300)), ten), 1, 2), toAll(news("", inside(0, seq(1, 2, 300)), ten), 3, 4)...)...)
}

func TestP6PathsToldToExternalPeers(t *testing.T) {
	many := func(n int) []int { return slices.Repeat([]int{77}, n) }
	for _, c := range []struct{ name, path, want string }{
		{"none", "", seq(65000)},
		{"a sequence", seq(5, 6), seq(65000, 5, 6)},
		{"the same AS twice", seq(5, 5), seq(65000, 5, 5)},
		{"two sequences", seq(5) + seq(6), seq(65000, 5) + seq(6)},
		{"a set", part(1, 5, 6), seq(65000) + part(1, 5, 6)},
		{"a set and a sequence", part(1, 5) + seq(6), seq(65000) + part(1, 5) + seq(6)},
		{"a sequence and a set", seq(5) + part(1, 6, 7), seq(65000, 5) + part(1, 6, 7)},
		{"254", seq(many(254)...), seq(append([]int{65000}, many(254)...)...)},
		{"255", seq(many(255)...), seq(65000) + seq(many(255)...)},
		{"255 and one", seq(many(255)...) + seq(5), seq(65000) + seq(many(255)...) + seq(5)},
		{"255 in a set", part(1, many(255)...), seq(65000) + part(1, many(255)...)},
	} {
		s := begun(t, five())
		turnSends(t, c.name, s, 0, []api.Input{comes(0, news("", needed(2, c.path), ten))},
			append(toAll(news("", outside(2, c.want), ten), 1, 2), toAll(news("", inside(2, c.path), ten), 3, 4)...)...)
	}
}

// The flag LONG is of the path that is sent, not of the one that came.
func TestP4LongPaths(t *testing.T) {
	path := seq(make([]int, 126)...) // 254 bytes
	long := "\x50\x02\x01\x00" + seq(append([]int{65000}, make([]int, 126)...)...)
	s := begun(t, five())
	came := attr(64, 1, "\x00") + "\x50\x02\x00\xfe" + path + attr(64, 3, "\x0a\x00\x00\x01")
	turnSends(t, "256 bytes with the speaker's AS", s, 0, []api.Input{comes(0, news("", came, ten))},
		append(toAll(news("", attr(64, 1, "\x00")+long+attr(64, 3, "\x01\x02\x03\x04"), ten), 1, 2),
			toAll(news("", attr(64, 1, "\x00")+"\x40\x02\xfe"+path+attr(64, 3, "\x0a\x00\x00\x01")+pref(100), ten), 3, 4)...)...)
}

// Attributes are sent in the order of the types, with the flags of the table, whatever came; those that are not known are not sent.
func TestP4AttributesThatAreTold(t *testing.T) {
	c := five()
	c.Peers[0].Pref = api.MaxPref
	for _, m := range []struct{ came, told string }{
		{"", ""}, {metric(0), metric(0)}, {attr(128, 4, "\xff\xff\xff\xff"), attr(128, 4, "\xff\xff\xff\xff")}, {attr(128+32+15, 4, "\x01\x00\x00\x00"), attr(128, 4, "\x01\x00\x00\x00")},
	} {
		s := begun(t, c)
		came := attr(192, 99, "unknown") + m.came + pref(3) + attr(64+32, 3, "\xff\xff\xff\xfe") + "\x50\x02\x00\x04" + seq(1) + "\x50\x01\x00\x01\x02"
		inner := attr(64, 1, "\x02") + attr(64, 2, seq(1)) + attr(64, 3, "\xff\xff\xff\xfe") + m.told + attr(64, 5, "\x80\x00\x00\x00")
		turnSends(t, "external", s, 0, []api.Input{comes(0, news("", came, ten))},
			append(toAll(news("", outside(2, seq(65000, 1)), ten), 1, 2), toAll(news("", inner, ten), 3, 4)...)...)
		turnSends(t, "internal", s, 0, []api.Input{comes(3, news("", came, eleven))}, toAll(news("", outside(2, seq(65000, 1)), eleven), 0, 1, 2)...)
	}
}

// Attributes that are not sent to a peer change nothing for it.
func TestP4OthersOnlyAsTheyWouldBeSent(t *testing.T) {
	s := begun(t, five())
	turnSends(t, "a route", s, 0, []api.Input{comes(0, news("", needed(1, seq(1)), ten))},
		append(toAll(news("", outside(1, seq(65000, 1)), ten), 1, 2), toAll(news("", inside(1, seq(1)), ten), 3, 4)...)...)
	turnSends(t, "a metric", s, 0, []api.Input{comes(0, news("", needed(1, seq(1))+metric(0), ten))},
		toAll(news("", needed(1, seq(1))+metric(0)+pref(100), ten), 3, 4)...)
	turnSends(t, "a next hop", s, 0, []api.Input{comes(0, news("", attr(64, 1, "\x01")+attr(64, 2, seq(1))+attr(64, 3, "\x05\x05\x05\x05"), ten))},
		toAll(news("", attr(64, 1, "\x01")+attr(64, 2, seq(1))+attr(64, 3, "\x05\x05\x05\x05")+pref(100), ten), 3, 4)...)
	turnSends(t, "an origin", s, 0, []api.Input{comes(0, news("", attr(64, 1, "\x00")+attr(64, 2, seq(1))+attr(64, 3, "\x05\x05\x05\x05"), ten))},
		append(toAll(news("", outside(0, seq(65000, 1)), ten), 1, 2), toAll(news("", attr(64, 1, "\x00")+attr(64, 2, seq(1))+attr(64, 3, "\x05\x05\x05\x05")+pref(100), ten), 3, 4)...)...)
	// The same attributes of another peer: for the third nothing changes, the first is told, the second no longer.
	turnSends(t, "of another peer", s, 0, []api.Input{comes(1, news("", attr(64, 1, "\x00")+attr(64, 2, seq(1))+attr(64, 3, "\x05\x05\x05\x05"), ten)), comes(0, news(ten, "", ""))},
		sent(0, news("", outside(0, seq(65000, 1)), ten)), sent(1, news(ten, "", "")))
	turnSends(t, "gone and come at one turn", s, 0, []api.Input{comes(1, news(ten, "", "")+news("", attr(64, 1, "\x00")+attr(64, 2, seq(1))+attr(64, 3, "\x05\x05\x05\x05"), ten))})
}

func TestP4ExportOfEachPeer(t *testing.T) {
	c := five()
	c.Peers[1].Export = []api.Rule{{Addr: 10 << 24, Len: 8, Ge: 8, Le: 8}, {Permit: true, Addr: 10 << 24, Len: 7, Ge: 8, Le: 9}}
	c.Peers[2].Export = nil
	c.Peers[3].Export = []api.Rule{{Addr: 0, Le: 32}, {Permit: true, Le: 32}}
	c.Peers[4].Export = []api.Rule{{Permit: true, Addr: 10 << 24, Len: 8, Ge: 8, Le: 8}}
	s := begun(t, c)
	turnSends(t, "Export", s, 0, []api.Input{comes(0, news("", needed(0, seq(1)), ten+eleven+"\x07\x0a\x09\x0a\x80\x0a\x0a\x40\x08\x0c"))},
		sent(1, news("", outside(0, seq(65000, 1)), "\x09\x0a\x80\x08\x0b")), sent(4, news("", inside(0, seq(1)), ten)))
	turnSends(t, "withdrawn", s, 0, []api.Input{reset(0)}, sent(1, news("\x09\x0a\x80\x08\x0b", "", "")), sent(4, news(ten, "", "")))
}

// Withdrawals are first, then the announcements by attributes, each in the order of the prefixes.
func TestP4OrderOfUpdates(t *testing.T) {
	c := five()
	c.Peers = c.Peers[:2]
	s := begun(t, c)
	a, b := outside(0, seq(65000, 1)), outside(1, seq(65000, 1))
	turnSends(t, "by attributes, with the first", s, 0, []api.Input{
		comes(0, news("", needed(1, seq(1)), "\x20\x0a\x00\x00\x01"+"\x10\x0a\x00"+"\x08\x80")), comes(0, news("", needed(0, seq(1)), "\x09\x0a\x00"+"\x18\x0a\x00\x00"+"\x00")),
	}, sent(1, news("", a, "\x00"+"\x09\x0a\x00"+"\x18\x0a\x00\x00")+news("", b, "\x10\x0a\x00"+"\x20\x0a\x00\x00\x01"+"\x08\x80")))
	turnSends(t, "withdrawals first", s, 0, []api.Input{comes(0, news("\x08\x80"+"\x00", needed(1, seq(1)), "\x18\x0a\x00\x00")+news("\x10\x0a\x00", needed(0, seq(1)), "\x20\x0a\x00\x00\x01"))},
		sent(1, news("\x00"+"\x10\x0a\x00"+"\x08\x80", "", "")+news("", b, "\x18\x0a\x00\x00")+news("", a, "\x20\x0a\x00\x00\x01")))
	turnSends(t, "withdrawals by two peers", s, 0, []api.Input{comes(1, news("", needed(0, seq(2)), "\x18\x0a\x00\x00")), comes(0, news("\x09\x0a\x00", "", ""))},
		sent(0, news("", outside(0, seq(65000, 2)), "\x18\x0a\x00\x00")), sent(1, news("\x09\x0a\x00"+"\x18\x0a\x00\x00", "", "")))
}

// Bits behind the length, which may come in, are sent as 0.
func TestP4PrefixesAsTheyAreWritten(t *testing.T) {
	c := five()
	c.Peers = c.Peers[:2]
	s := begun(t, c)
	turnSends(t, "odd lengths", s, 0, []api.Input{comes(0, news("", needed(0, seq(1)), "\x01\xff\x07\xff\x09\xff\xff\x0f\xff\xff\x11\xff\xff\xff\x19\xff\xff\xff\xff\x1f\xff\xff\xff\xff"))},
		sent(1, news("", outside(0, seq(65000, 1)), "\x01\x80\x07\xfe\x09\xff\x80\x0f\xff\xfe\x11\xff\xff\x80\x19\xff\xff\xff\x80\x1f\xff\xff\xff\xfe")))
}

// A new session is told all, whatever was told in the one before.
func TestP4Newcomers(t *testing.T) {
	c := five()
	c.Peers[1].Wait, c.Peers[3].Wait = 1000, 1000
	s := mustNew(t, c)
	meet(t, s, c, 0, 9)
	hears(t, s, 0, news("", needed(0, seq(1)), twelve+ten)+news("", needed(1, seq(1)), eleven))
	outer := news("", outside(0, seq(65000, 1)), ten+twelve) + news("", outside(1, seq(65000, 1)), eleven)
	inner := news("", inside(0, seq(1)), ten+twelve) + news("", inside(1, seq(1)), eleven)
	for range 3 {
		turnSends(t, "not Established yet", s, 1, []api.Input{connect(1), connect(3), comes(1, open(2, 0, 7)), comes(3, open(65000, 0, 7))},
			sent(1, open(65000, 0, 7)+alive), sent(3, open(65000, 0, 7)+alive))
		turnSends(t, "Established", s, 1, []api.Input{comes(1, alive), comes(3, alive)}, sent(1, outer), sent(3, inner))
		turnSends(t, "and no more", s, 1, nil)
		turnSends(t, "Reset", s, 1, []api.Input{reset(1), comes(3, notice(6, 0, ""))}, closed(3, ""))
		turnSends(t, "all at one turn", s, 0, []api.Input{connect(1), comes(1, open(2, 0, 7)+alive), connect(2), comes(2, open(300, 0, 7)+alive)},
			sent(1, open(65000, 0, 7)+alive+outer), sent(2, open(65000, 0, 7)+alive+outer))
		turnSends(t, "Reset", s, 0, []api.Input{reset(1), reset(2)})
	}
}

// A newcomer that tells a route at its first turn: the others are told of it, it is not.
func TestP6NewcomersOwnRoutes(t *testing.T) {
	c := five()
	s := mustNew(t, c)
	meet(t, s, c, 0, 9)
	turnSends(t, "two newcomers", s, 0, []api.Input{
		connect(1), comes(1, open(2, 0, 7)+alive+news("", needed(0, seq(2)), ten)), connect(2), comes(2, open(300, 0, 7)+alive+news("", needed(0, seq(300)), eleven)),
	}, sent(0, news("", outside(0, seq(65000, 2)), ten)+news("", outside(0, seq(65000, 300)), eleven)),
		sent(1, open(65000, 0, 7)+alive+news("", outside(0, seq(65000, 300)), eleven)), sent(2, open(65000, 0, 7)+alive+news("", outside(0, seq(65000, 2)), ten)))
}

// A peer that tells a route and is closed at the same turn: nobody is told of it, and nothing more is sent to it.
func TestP5NoUpdatesBehindAClose(t *testing.T) {
	s := begun(t, five())
	turnSends(t, "told and closed", s, 0, []api.Input{comes(0, news("", needed(0, seq(1)), ten)+notice(6, 0, "")), comes(1, news("", needed(0, seq(2)), eleven)), comes(2, open(300, 0, 7)), reset(3)},
		closed(0, ""), closed(2, notice(5, 0, "")), sent(4, news("", inside(0, seq(2)), eleven)))
	turnSends(t, "who is left", s, 0, []api.Input{comes(4, news("", inside(0, seq(9)), ten))}, sent(1, news("", outside(0, seq(65000, 9)), ten)))
}

// Updates are something that was sent: they put the Keepalive off. One that is due goes ahead of them.
func TestP4UpdatesAndKeepalives(t *testing.T) {
	c := five()
	c.Peers[1].Hold = 30
	s := mustNew(t, c)
	meet(t, s, c, 0, 9)
	s.Turn(0, []api.Input{connect(1), comes(1, open(2, 30, 8)+alive)})
	say := func(origin byte) []api.Input {
		return []api.Input{comes(0, news("", needed(origin, seq(1)), ten)), comes(1, alive)}
	}
	told := func(origin byte) string { return news("", outside(origin, seq(65000, 1)), ten) }
	turnSends(t, "an Update", s, 9, say(0), sent(1, told(0)))
	turnSends(t, "nine ticks behind it", s, 9, nil)
	turnSends(t, "ten, and an Update", s, 1, say(1), sent(1, alive+told(1)))
	turnSends(t, "a withdrawal", s, 9, []api.Input{comes(0, news(ten, "", "")), comes(1, alive)}, sent(1, news(ten, "", "")))
	turnSends(t, "nine ticks behind it", s, 9, []api.Input{comes(0, news(ten, "", ""))})
	turnSends(t, "ten", s, 1, nil, sent(1, alive))
}

func TestP4UpdatesAreFilled(t *testing.T) {
	c := five()
	c.Peers = c.Peers[:2]
	s := begun(t, c)
	var all strings.Builder
	for i := range 3000 {
		all.WriteString("\x1f\x0a" + inTwo(i/100) + string([]byte{byte(i % 100 * 2)}))
	}
	list := all.String()
	var in []api.Input
	for part := range slices.Chunk([]byte(list), 4000) {
		in = append(in, comes(0, news("", needed(0, seq(1)), string(part))))
	}
	slices.Reverse(in)
	a := outside(0, seq(65000, 1))
	full := (4096 - 23 - len(a)) / 5 * 5
	want := ""
	for left := list; left != ""; left = left[min(full, len(left)):] {
		want += news("", a, left[:min(full, len(left))])
	}
	turnSends(t, "announced", s, 0, in, sent(1, want))
	want = ""
	for left := list; left != ""; left = left[min(4070, len(left)):] {
		want += news(left[:min(4070, len(left))], "", "")
	}
	turnSends(t, "withdrawn", s, 0, []api.Input{reset(0)}, sent(1, want))
}

// wide is a path of so many bytes, an even number, in segments that are full but for the last.
func wide(size int) string {
	path := ""
	for size > 0 {
		n := min(255, size/2-1)
		if size-2-2*n == 2 { // no segment of two bytes is left
			n--
		}
		path += seq(slices.Repeat([]int{77}, n)...)
		size -= 2 + 2*n
	}
	return path
}

// A route is told only if it would go into an Update, alone: that hangs on the prefix too. An Update has 23 bytes beside its lists;
// of these the origin has 4, the path 4 and its segments, the next hop 7, the speaker's AS 4 (in a new sequence), LocalPref 7.
func TestP4RoutesWithoutRoom(t *testing.T) {
	c := five()
	c.Peers = []api.Peer{c.Peers[0], c.Peers[1], c.Peers[3]}
	const none, all = "\x00", "\x20\x01\x02\x03\x04"
	for _, x := range []struct {
		size         int
		prefix       string
		outer, inner bool // whether the external and the internal peer are told
	}{
		{4046, all, true, true}, {4048, all, true, false}, {4050, all, false, false}, {4052, all, false, false},
		{4050, none, true, true}, {4052, none, true, false}, {4054, none, false, false}, {4056, none, false, false},
	} {
		s := begun(t, c)
		came := needed(0, wide(x.size))
		if n := len(came) + len(x.prefix); len(came) != 15+x.size || n > 4096-23 {
			t.Fatalf("the attributes of a path of %d bytes have %d bytes, with the prefix %d", x.size, len(came), n)
		}
		small := []api.Output{sent(1, news("", outside(0, seq(65000, 1)), x.prefix)), sent(2, news("", inside(0, seq(1)), x.prefix))}
		great := toAll(news(x.prefix, "", ""), 1, 2)
		if x.outer {
			great[0].Data = news("", outside(0, seq(65000)+wide(x.size)), x.prefix)
		}
		if x.inner {
			great[1].Data = news("", came+pref(100), x.prefix)
		}
		turnSends(t, "a short path", s, 0, []api.Input{comes(0, news("", needed(0, seq(1)), x.prefix))}, small...)
		turnSends(t, "a long path", s, 0, []api.Input{comes(0, news("", came, x.prefix))}, great...)
		turnSends(t, "a short path again", s, 0, []api.Input{comes(0, news("", needed(0, seq(1)), x.prefix))}, small...)
	}
}

// A route that is not told for want of room is still the best.
func TestP10RoutesWithoutRoomAreBest(t *testing.T) {
	c := five()
	c.Peers = c.Peers[:2]
	s := begun(t, c)
	path := wide(4056)
	turnSends(t, "a long path", s, 0, []api.Input{comes(0, news("", needed(0, path), "\x00"))})
	checkBest(t, "a long path", s, to(0, 0, by(0, 0, path)))
}

func TestP7Wait(t *testing.T) {
	c := five()
	c.Peers = c.Peers[:3]
	c.Peers[1].Wait, c.Peers[2].Wait = 10, 1
	s := begun(t, c)
	say := func(origin byte) []api.Input {
		return []api.Input{comes(0, news("", needed(origin, seq(1)), ten))}
	}
	told := func(peer int, origin byte) api.Output {
		return sent(peer, news("", outside(origin, seq(65000, 1)), ten))
	}
	gone := []api.Input{comes(0, news(ten, "", ""))}
	turnSends(t, "at once", s, 5, say(0), told(1, 0), told(2, 0))
	turnSends(t, "at the same tick", s, 0, say(1))
	turnSends(t, "a tick later", s, 1, nil, told(2, 1))
	turnSends(t, "nine ticks later, the last of both", s, 8, say(2), told(2, 2))
	turnSends(t, "ten ticks later", s, 1, nil, told(1, 2))
	turnSends(t, "no more", s, 100, nil)
	turnSends(t, "at once, as the wait is over", s, 0, say(0), told(1, 0), told(2, 0))
	turnSends(t, "a withdrawal does not wait", s, 0, gone, sent(1, news(ten, "", "")), sent(2, news(ten, "", "")))
	turnSends(t, "the announcement behind it does", s, 0, say(0))
	turnSends(t, "and goes again", s, 0, gone)
	turnSends(t, "and comes again", s, 0, say(0))
	turnSends(t, "one tick", s, 1, nil, told(2, 0))
	turnSends(t, "nine ticks", s, 8, nil)
	turnSends(t, "ten ticks", s, 1, nil, told(1, 0))
	turnSends(t, "withdrawn", s, 5, gone, sent(1, news(ten, "", "")), sent(2, news(ten, "", "")))
	turnSends(t, "ten ticks since the announcement, five since the withdrawal", s, 5, say(0), told(1, 0), told(2, 0))
}

// What waits is looked at anew: if it is as it was sent, nothing is sent; if it is gone, it is withdrawn once.
func TestP7WhatWaitsIsLookedAtAnew(t *testing.T) {
	c := five()
	c.Peers = c.Peers[:2]
	c.Peers[1].Wait = 10
	s := begun(t, c)
	say := func(origin byte) []api.Input {
		return []api.Input{comes(0, news("", needed(origin, seq(1)), ten))}
	}
	told := func(origin byte) api.Output { return sent(1, news("", outside(origin, seq(65000, 1)), ten)) }
	turnSends(t, "a route", s, 0, say(0), told(0))
	turnSends(t, "another", s, 1, say(1))
	turnSends(t, "and back", s, 1, say(0))
	turnSends(t, "nothing is sent", s, 8, nil)
	turnSends(t, "at once", s, 0, say(1), told(1))
	turnSends(t, "another", s, 1, say(2))
	turnSends(t, "gone", s, 1, []api.Input{comes(0, news(ten, "", ""))}, sent(1, news(ten, "", "")))
	turnSends(t, "not twice", s, 8, nil)
	turnSends(t, "nor later", s, 50, nil)
	turnSends(t, "at once", s, 0, say(2), told(2))
	turnSends(t, "it is the peer's own", s, 1, []api.Input{comes(1, news("", needed(0, ""), ten))}, sent(0, news("", outside(0, seq(65000)), ten)), sent(1, news(ten, "", "")))
	turnSends(t, "and no longer", s, 1, []api.Input{comes(1, news(ten, "", ""))}, sent(0, news(ten, "", "")))
	turnSends(t, "nine ticks", s, 7, nil)
	turnSends(t, "ten ticks", s, 1, nil, told(2))
}

// Each prefix waits by itself; those whose time has come go with those that need not wait.
func TestP7EachPrefixByItself(t *testing.T) {
	c := five()
	c.Peers = c.Peers[:2]
	c.Peers[1].Wait = 10
	s := begun(t, c)
	say := func(origin byte, list string) []api.Input {
		return []api.Input{comes(0, news("", needed(origin, seq(1)), list))}
	}
	told := func(origin byte, list string) api.Output {
		return sent(1, news("", outside(origin, seq(65000, 1)), list))
	}
	turnSends(t, "the first", s, 0, say(0, twelve), told(0, twelve))
	turnSends(t, "the second", s, 4, say(0, eleven), told(0, eleven))
	turnSends(t, "others", s, 1, say(1, ten+eleven+twelve), told(1, ten))
	turnSends(t, "ten ticks since the first, and a new one", s, 5, say(1, "\x00"), told(1, "\x00"+twelve))
	turnSends(t, "ten since the second", s, 4, nil, told(1, eleven))
}

// Waiting ends with the session.
func TestP7ANewSessionWaitsForNothing(t *testing.T) {
	c := five()
	c.Peers = c.Peers[:2]
	c.Peers[1].Wait = 1000
	s := begun(t, c)
	turnSends(t, "a route", s, 0, []api.Input{comes(0, news("", needed(0, seq(1)), ten))}, sent(1, news("", outside(0, seq(65000, 1)), ten)))
	turnSends(t, "another", s, 0, []api.Input{comes(0, news("", needed(1, seq(1)), ten+eleven))}, sent(1, news("", outside(1, seq(65000, 1)), eleven)))
	turnSends(t, "Reset", s, 0, []api.Input{reset(1)})
	turnSends(t, "a new session", s, 0, []api.Input{connect(1), comes(1, open(2, 0, 7)+alive)}, sent(1, open(65000, 0, 7)+alive+news("", outside(1, seq(65000, 1)), ten+eleven)))
	turnSends(t, "its own wait", s, 999, []api.Input{comes(0, news("", needed(2, seq(1)), ten))})
	turnSends(t, "is over", s, 1, nil, sent(1, news("", outside(2, seq(65000, 1)), ten)))
}

// A great many prefixes, told, changed and waited for by many turns, and taken away at once.
func TestP1ManyPrefixesAreTold(t *testing.T) {
	c := five()
	for i := range c.Peers {
		c.Peers[i].Limit, c.Peers[i].Wait = 1<<20, 250*i
	}
	s := begun(t, c)
	say := func(origin byte) []api.Input {
		var all strings.Builder
		for i := range 60 {
			list := ""
			for j := range 900 {
				list += "\x18" + string([]byte{byte(i)}) + inTwo(j)
			}
			all.WriteString(news("", needed(origin, seq(i)), list))
		}
		return []api.Input{comes(0, all.String())}
	}
	counts := func(ticks int, in []api.Input) (n int) {
		for _, out := range s.Turn(ticks, in) {
			n += strings.Count(out.Data, mark)
		}
		return n
	}
	checkEnds(t, "Turn", func() {
		if n := counts(0, say(0)); n != 4*60 {
			t.Errorf("P4: %d Updates, want %d", n, 4*60)
		}
		n := counts(0, say(1))
		for range 1000 {
			n += counts(1, nil)
		}
		if n != 4*60 {
			t.Errorf("P8: %d Updates of what changed, want %d", n, 4*60)
		}
		if n := counts(0, []api.Input{reset(0)}); n != 4*((60*900*4+4071)/4072) {
			t.Errorf("P4: %d Updates of what is gone, want %d", n, 4*((60*900*4+4071)/4072))
		}
	})
}

// net is a prefix, as the test itself keeps it.
type net struct {
	addr uint32
	bits int
}

func (n net) written() string {
	return string([]byte{byte(n.bits), byte(n.addr >> 24), byte(n.addr >> 16), byte(n.addr >> 8), byte(n.addr)}[:1+(n.bits+7)/8])
}

func (n net) compare(other net) int {
	return cmp.Or(cmp.Compare(n.addr, other.addr), cmp.Compare(n.bits, other.bits))
}

// passes goes through a filter bit by bit.
func (n net) passes(filter []api.Rule) bool {
	for _, rule := range filter {
		meets := n.bits >= rule.Ge && n.bits <= rule.Le
		for i := range rule.Len {
			bit := uint32(1) << (31 - i)
			meets = meets && n.addr&bit == rule.Addr&bit
		}
		if meets {
			return rule.Permit
		}
	}
	return false
}

// ahead is a path with the speaker's AS ahead.
func ahead(path string) string {
	if path != "" && path[0] == 2 && path[1] != 255 {
		return string([]byte{2, path[1] + 1}) + inTwo(65000) + path[2:]
	}
	return seq(65000) + path
}

// toBeTold is what a peer is to be told, as the document's words say: of each prefix the attributes.
func toBeTold(c api.Config, peer int, best []api.Route) map[net]string {
	all := map[net]string{}
	external := c.Peers[peer].AS != c.AS
	for _, r := range best {
		n := net{r.Addr, r.Len}
		if r.Peer == peer || !external && c.Peers[r.Peer].AS == c.AS || !n.passes(c.Peers[peer].Export) {
			continue
		}
		four := func(n uint32) string { return string([]byte{byte(n >> 24), byte(n >> 16), byte(n >> 8), byte(n)}) }
		list := attr(64, 1, string([]byte{byte(r.Origin)}))
		switch {
		case external:
			list += attr(64, 2, ahead(r.Path)) + attr(64, 3, four(c.NextHop))
		case r.Metric >= 0:
			list += attr(64, 2, r.Path) + attr(64, 3, four(r.NextHop)) + attr(128, 4, four(uint32(r.Metric))) + attr(64, 5, four(uint32(r.Pref)))
		default:
			list += attr(64, 2, r.Path) + attr(64, 3, four(r.NextHop)) + attr(64, 5, four(uint32(r.Pref)))
		}
		if len(news("", list, n.written())) <= 4096 {
			all[n] = list
		}
	}
	return all
}

// listener is a peer that keeps what it is told in a session, and when.
type listener struct {
	told map[net]string
	at   map[net]int
}

// expects is the Updates that the document asks for, where want is what the listener is to be told.
func (l listener) expects(now, wait int, want map[net]string) string {
	all, gone := "", ""
	for _, n := range slices.SortedFunc(maps.Keys(l.told), net.compare) {
		if want[n] != "" {
			continue
		}
		if len(gone)+len(n.written()) > 4073 {
			all += news(gone, "", "")
			gone = ""
		}
		gone += n.written()
	}
	if gone != "" {
		all += news(gone, "", "")
	}
	var come []net
	for _, n := range slices.SortedFunc(maps.Keys(want), net.compare) {
		at, before := l.at[n]
		if want[n] != l.told[n] && (!before || now-at >= wait) {
			come = append(come, n)
		}
	}
	for len(come) > 0 {
		attributes, list := want[come[0]], ""
		var others []net
		full := false
		for _, n := range come {
			full = full || want[n] == attributes && len(news("", attributes, list+n.written())) > 4096
			if want[n] != attributes || full {
				others = append(others, n)
			} else {
				list += n.written()
			}
		}
		all += news("", attributes, list)
		// What is left of the group goes next.
		come = slices.SortedStableFunc(slices.Values(others), func(a, b net) int { return rank(want[b] == attributes) - rank(want[a] == attributes) })
	}
	return all
}

func rank(yes bool) int {
	if yes {
		return 1
	}
	return 0
}

// readNets cuts prefixes.
func readNets(list string) []net {
	var all []net
	for list != "" {
		n := net{bits: int(list[0])}
		size := (n.bits + 7) / 8
		for i := range size {
			n.addr |= uint32(list[1+i]) << (24 - 8*i)
		}
		all = append(all, n)
		list = list[1+size:]
	}
	return all
}

// splitUpdates parts what was sent into what is ahead of the Updates, and these.
func splitUpdates(t *testing.T, data string) (ahead string, updates []string) {
	t.Helper()
	for data != "" {
		n := int(data[16])<<8 | int(data[17])
		if data[18] == api.Update {
			updates = append(updates, data[:n])
		} else if ahead += data[:n]; len(updates) > 0 {
			t.Fatalf("P4: something is sent behind Updates: %x", data[:n])
		}
		data = data[n:]
	}
	return ahead, updates
}

// hear takes in an Update, and fails the test if it tells what the listener knows, or too early.
func (l listener) hear(t *testing.T, update string, now, wait int) {
	t.Helper()
	body := update[19:]
	n := 2 + int(body[0])<<8 + int(body[1])
	gone, body := readNets(body[2:n]), body[n:]
	n = 2 + int(body[0])<<8 + int(body[1])
	attributes, come := body[2:n], readNets(body[n:])
	if len(gone) == 0 == (len(come) == 0) || len(come) == 0 != (attributes == "") {
		t.Fatalf("P4: an Update of nothing, or of both kinds: %x", update)
	}
	for _, p := range gone {
		if l.told[p] == "" {
			t.Fatalf("P4: %+v is withdrawn, which was not told", p)
		}
		delete(l.told, p)
	}
	for _, p := range come {
		if at, before := l.at[p]; l.told[p] == attributes || before && now-at < wait {
			t.Fatalf("P7: %+v is announced at %d with %x, and was at %d with %x", p, now, attributes, at, l.told[p])
		}
		l.told[p], l.at[p] = attributes, now
	}
}

// rumour is a random Update for telling: few prefixes of many lengths, few attributes, some of them too long.
func rumour(random *rand.Rand, internal bool) string {
	paths := []string{"", seq(1), seq(2, 3), part(1, 4), part(1, 4) + seq(5), seq(make([]int, 254)...), seq(make([]int, 255)...), seq(make([]int, 126)...), seq(6, 65000)}
	path := paths[random.Intn(len(paths))]
	if random.Intn(12) == 0 {
		path = wide(4020 + 2*random.Intn(10))
	}
	attributes := needed(byte(random.Intn(2)), path)
	if random.Intn(3) == 0 {
		attributes += metric(byte(random.Intn(2)))
	}
	if internal {
		attributes += pref(byte(99 + random.Intn(3)))
	}
	one := func() string {
		return net{[]uint32{0, 10 << 24, 11 << 24, 1 << 31}[random.Intn(4)], []int{1, 8, 17, 32}[random.Intn(4)]}.masked().written()
	}
	withdrawn, announced := "", ""
	for range random.Intn(3) {
		withdrawn += one()
	}
	for range random.Intn(4) {
		announced += one()
	}
	if len(news(withdrawn, attributes, announced)) > 4096 {
		withdrawn, announced = "", "\x00"
	}
	return news(withdrawn, attributes, announced)
}

func (n net) masked() net {
	return net{n.addr &^ (1<<(32-n.bits) - 1), n.bits}
}

// gossip is a speaker with its listeners, and a random source.
type gossip struct {
	*Speaker
	c         api.Config
	random    *rand.Rand
	listeners []listener
	at        int
}

func newGossip(t *testing.T, seed int64) *gossip {
	c := five()
	random := rand.New(rand.NewSource(seed))
	for i := range c.Peers {
		c.Peers[i].Wait = []int{0, 0, 1, 3, 8}[random.Intn(5)]
		if random.Intn(3) == 0 {
			c.Peers[i].Export = []api.Rule{{Addr: 10 << 24, Len: 8, Ge: 8, Le: 20}, {Permit: true, Addr: 10 << 24, Len: 7, Ge: 7, Le: 32}, {Permit: true, Le: 20}}
		}
	}
	g := &gossip{Speaker: mustNew(t, c), c: c, random: random, listeners: make([]listener, len(c.Peers))}
	for i := range c.Peers {
		g.begin(i)
	}
	return g
}

func (g *gossip) begin(peer int) {
	g.listeners[peer] = listener{map[net]string{}, map[net]int{}}
}

// inputs are random ones.
func (g *gossip) inputs() []api.Input {
	var in []api.Input
	for range g.random.Intn(4) {
		peer := g.random.Intn(len(g.c.Peers))
		switch n := g.random.Intn(20); {
		case n < 1:
			in = append(in, reset(peer))
		case n < 5:
			in = append(in, connect(peer), comes(peer, open(g.c.Peers[peer].AS, 0, 9-peer)+alive))
			in = slices.DeleteFunc(in, func(i api.Input) bool { return i.Peer == peer && g.State(peer) != api.Idle })
		default:
			if g.State(peer) == api.Established {
				in = append(in, comes(peer, rumour(g.random, g.c.Peers[peer].AS == g.c.AS)))
			}
		}
	}
	return in
}

// turn is a turn: what is sent must be what the document asks for, to the byte.
func (g *gossip) turn(t *testing.T, ticks int, in []api.Input) (updates int) {
	t.Helper()
	g.at += max(ticks, 0)
	before := make([]int, len(g.c.Peers))
	for i := range before {
		before[i] = g.State(i)
	}
	told := make([]string, len(g.c.Peers))
	for _, out := range g.Turn(ticks, in) {
		told[out.Peer] = out.Data
	}
	best := g.Best()
	for i, peer := range g.c.Peers {
		_, got := splitUpdates(t, told[i])
		if g.State(i) != api.Established {
			if len(got) > 0 {
				t.Fatalf("P5: Updates in the state %d", g.State(i))
			}
			continue
		}
		if before[i] != api.Established {
			g.begin(i)
		}
		l := g.listeners[i]
		want := toBeTold(g.c, i, best)
		if all, asked := strings.Join(got, ""), l.expects(g.at, peer.Wait, want); all != asked {
			t.Fatalf("P4: at %d peer %d is told %x, want %x", g.at, i, all, asked)
		}
		for _, u := range got {
			l.hear(t, u, g.at, peer.Wait)
		}
		updates += len(got)
	}
	return updates
}

// Random Updates, against a plain reading of the document.
func TestP4TellingOfRandomRoutes(t *testing.T) {
	updates := 0
	for seed := range int64(300) {
		g := newGossip(t, seed)
		for range 60 {
			updates += g.turn(t, g.random.Intn(4)-1+g.random.Intn(2), g.inputs())
		}
	}
	if updates < 10000 {
		t.Errorf("P4: the test comes to %d Updates only", updates)
	}
}

// When nothing comes in any more, each peer knows behind its Wait just what it is to be told.
func TestP8AllIsToldInTheEnd(t *testing.T) {
	known := 0
	for seed := range int64(300) {
		g := newGossip(t, 1000+seed)
		for range 25 {
			g.turn(t, g.random.Intn(3), g.inputs())
		}
		var in []api.Input
		for i := range g.c.Peers {
			in = append(in, comes(i, alive))
		}
		for ticks := 8; ticks > 0; {
			n := 1 + g.random.Intn(ticks)
			ticks -= n
			g.turn(t, n, slices.DeleteFunc(slices.Clone(in), func(i api.Input) bool { return g.State(i.Peer) != api.Established }))
		}
		for i, l := range g.listeners {
			if want := toBeTold(g.c, i, g.Best()); g.State(i) == api.Established && !maps.Equal(l.told, want) {
				t.Fatalf("P8: peer %d was told %x, want %x", i, l.told, want)
			} else if g.State(i) == api.Established {
				known += len(want)
			}
		}
		if got := g.Turn(1000, nil); len(got) != 0 {
			t.Fatalf("P8: behind that something is sent: %+v", got)
		}
	}
	if known < 3000 {
		t.Errorf("P8: the test comes to %d routes only", known)
	}
}
