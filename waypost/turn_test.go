package waypost

import (
	"math"
	"math/rand"
	"runtime"
	"slices"
	"strings"
	"testing"
	"time"

	"waypost/api"
)

const mark = "\xff\xff\xff\xff\xff\xff\xff\xff\xff\xff\xff\xff\xff\xff\xff\xff"

func raw(kind int, body string) string {
	n := 19 + len(body)
	return mark + string([]byte{byte(n >> 8), byte(n), byte(kind)}) + body
}

// open is an Open; its number is below 256.
func open(as, hold, id int) string {
	return raw(api.Open, string([]byte{4, byte(as >> 8), byte(as), byte(hold >> 8), byte(hold), 0, 0, 0, byte(id), 0}))
}

func notice(code, subcode byte, data string) string {
	return raw(api.Notification, string([]byte{code, subcode})+data)
}

var (
	alive  = raw(api.Keepalive, "")
	update = raw(api.Update, "\x00\x00\x00\x00")
)

func connect(peer int) api.Input { return api.Input{Peer: peer, Kind: api.Connect} }
func comes(peer int, data string) api.Input {
	return api.Input{Peer: peer, Kind: api.Bytes, Data: data}
}
func reset(peer int) api.Input              { return api.Input{Peer: peer, Kind: api.Reset} }
func sent(peer int, data string) api.Output { return api.Output{Peer: peer, Data: data} }
func closed(peer int, data string) api.Output {
	return api.Output{Peer: peer, Data: data, Closed: true}
}

// turnSends fails the test if a turn does not answer want.
func turnSends(t *testing.T, what string, s *Speaker, ticks int, in []api.Input, want ...api.Output) {
	t.Helper()
	if got := s.Turn(ticks, in); !slices.Equal(got, want) {
		t.Fatalf("P4: %s: Turn(%d) sends %#v, want %#v", what, ticks, got, want)
	}
}

func checkStates(t *testing.T, what string, s *Speaker, want ...int) {
	t.Helper()
	for peer, state := range want {
		if got := s.State(peer); got != state {
			t.Fatalf("P10: %s: State(%d): %d, want %d", what, peer, got, state)
		}
	}
}

// eight is a configuration of eight peers of the ASes 1 to 8, with hold times from 3 to 10, that may tell some prefixes and are told all.
func eight() api.Config {
	c := api.Config{AS: 65000, ID: 7, NextHop: 0x01020304}
	for i := range 8 {
		through := []api.Rule{{Permit: true, Le: 32}}
		c.Peers = append(c.Peers, api.Peer{AS: i + 1, Hold: i + 3, Limit: 4, Wait: i % 3, Import: through, Export: slices.Clone(through)})
	}
	return c
}

// The document's example.
func TestP4Example(t *testing.T) {
	c := ordinary()
	c.ID = 0x01020304
	s := mustNew(t, c)
	turnSends(t, "Connect", s, 0, []api.Input{connect(0)}, sent(0, raw(api.Open, "\x04\xfd\xe8\x00\x5a\x01\x02\x03\x04\x00")))
	turnSends(t, "Open", s, 0, []api.Input{comes(0, open(65001, 30, 1))}, sent(0, alive))
	turnSends(t, "ten ticks", s, 10, []api.Input{comes(0, alive)}, sent(0, alive))
	turnSends(t, "nine ticks", s, 9, nil)
	turnSends(t, "ten ticks", s, 1, nil, sent(0, alive))
	checkStates(t, "Keepalive", s, api.Established, api.Idle)
	turnSends(t, "Connect of the other", s, 0, []api.Input{connect(1)}, sent(1, raw(api.Open, "\x04\xfd\xe8\x00\x00\x01\x02\x03\x04\x00")))
	turnSends(t, "nineteen bytes", s, 0, []api.Input{comes(1, strings.Repeat("\xff", 18)+"\x05")}, closed(1, notice(1, 2, "\xff\xff")))
}

// Whatever the order of the inputs, the outputs are in that of the peers, one of each at most.
func TestP4OutputsInTheOrderOfThePeers(t *testing.T) {
	c := eight()
	random := rand.New(rand.NewSource(1))
	for range 50 {
		s := mustNew(t, c)
		var in []api.Input
		var want []api.Output
		for _, peer := range random.Perm(8) {
			in = append(in, connect(peer))
		}
		for _, peer := range random.Perm(8) {
			if peer%2 == 0 {
				in = append(in, comes(peer, open(peer+1, 0, 9)), comes(peer, alive))
			}
		}
		for peer := range 8 {
			want = append(want, sent(peer, open(65000, peer+3, 7)))
			if peer%2 == 0 {
				want[peer].Data += alive
			}
		}
		turnSends(t, "all", s, 0, in, want...)
		checkStates(t, "all", s, api.Established, api.OpenSent, api.Established, api.OpenSent, api.Established, api.OpenSent, api.Established, api.OpenSent)
	}
}

// Peers of which there is nothing to tell are left out; a close is told without bytes too.
func TestP4WhoIsLeftOut(t *testing.T) {
	s := mustNew(t, eight())
	turnSends(t, "Connect", s, 0, []api.Input{connect(6), connect(2), connect(4)},
		sent(2, open(65000, 5, 7)), sent(4, open(65000, 7, 7)), sent(6, open(65000, 9, 7)))
	turnSends(t, "closes", s, 0, []api.Input{reset(6), comes(4, notice(6, 2, "")), comes(2, alive), comes(1, alive), reset(0)},
		closed(2, notice(5, 0, "")), closed(4, ""))
	checkStates(t, "closes", s, 0, 0, 0, 0, 0, 0, 0, 0)
	if got := s.Turn(0, nil); len(got) != 0 {
		t.Errorf("P4: a turn without anything: %+v", got)
	}
}

// Each peer has its own timers, and its close is no other's affair.
func TestP4EachSessionByItself(t *testing.T) {
	s := mustNew(t, eight())
	var in []api.Input
	for peer := range 8 {
		in = append(in, connect(peer))
	}
	s.Turn(0, in)
	s.Turn(2, nil)
	for peer := range 8 {
		turnSends(t, "a tick more", s, 1, []api.Input{connect(peer)}, closed(peer, notice(4, 0, "")))
	}
}

func TestP4TheTimeGoesOn(t *testing.T) {
	c := api.Config{AS: 65000, ID: 7, Peers: []api.Peer{{AS: 1, Hold: 3}}}
	for _, first := range []struct{ ticks, want int }{
		{0, 0}, {1, 1}, {api.MaxTime - 1, api.MaxTime - 1}, {api.MaxTime, api.MaxTime}, {api.MaxTime + 1, api.MaxTime}, {math.MaxInt, api.MaxTime}, {-1, 0}, {math.MinInt, 0},
	} {
		s := mustNew(t, c)
		s.Turn(first.ticks, nil)
		if s.now != first.want {
			t.Errorf("P4: the time behind %d ticks: %d, want %d", first.ticks, s.now, first.want)
		}
		s.Turn(math.MinInt, nil)
		if s.now != first.want {
			t.Errorf("P4: the time behind %d ticks, and less than none: %d, want %d", first.ticks, s.now, first.want)
		}
		for range 3 {
			s.Turn(math.MaxInt, nil)
		}
		if s.now != api.MaxTime {
			t.Errorf("P4: the time at its end: %d, want %d", s.now, api.MaxTime)
		}
	}
}

// At the end of the time no more ticks go by, and so no timer ends.
func TestP4TheEndOfTime(t *testing.T) {
	s := mustNew(t, api.Config{AS: 65000, ID: 7, Peers: []api.Peer{{AS: 1, Hold: 3}}})
	turnSends(t, "two ticks ahead of it", s, api.MaxTime-2, []api.Input{connect(0)}, sent(0, open(65000, 3, 7)))
	turnSends(t, "the end", s, math.MaxInt, nil)
	turnSends(t, "the end", s, math.MaxInt, nil)
	s = mustNew(t, api.Config{AS: 65000, ID: 7, Peers: []api.Peer{{AS: 1, Hold: 3}}})
	turnSends(t, "three ticks ahead of it", s, api.MaxTime-3, []api.Input{connect(0)}, sent(0, open(65000, 3, 7)))
	turnSends(t, "the end", s, math.MaxInt, nil, closed(0, notice(4, 0, "")))
}

func TestP1InputsThatAreNothing(t *testing.T) {
	s := mustNew(t, ordinary())
	turnSends(t, "Connect", s, 0, []api.Input{connect(0)}, sent(0, open(65000, 90, 7)))
	for _, n := range oddNumbers() {
		if n != 0 && n != 1 {
			turnSends(t, "no such peer", s, 0, []api.Input{connect(n), comes(n, "x"), reset(n), {Peer: n, Kind: n}})
		}
		if n < api.Connect || n > api.Reset {
			turnSends(t, "no such kind", s, 0, []api.Input{{Kind: n, Data: open(65001, 30, 7)}, {Peer: 1, Kind: n}})
		}
	}
	turnSends(t, "and then", s, 0, []api.Input{connect(-1), comes(0, open(65001, 30, 7)), connect(2)}, sent(0, alive))
	none := mustNew(t, api.Config{AS: 1, ID: 1})
	turnSends(t, "no peers", none, 1, []api.Input{connect(0), comes(0, alive), reset(0)})
}

// spoil writes over a list, its spare room too.
func spoil(list []api.Output) {
	list = list[:cap(list)]
	for i := range list {
		list[i] = api.Output{Peer: -1, Data: "spoilt", Closed: true}
	}
}

func TestP2OutputsAreTheCallers(t *testing.T) {
	in := []api.Input{connect(0), connect(3), connect(7)}
	one, other := mustNew(t, eight()), mustNew(t, eight())
	for range 20 {
		kept := one.Turn(1, in)
		before := slices.Clone(kept)
		spoil(other.Turn(1, in))
		one.Turn(0, nil)
		if !slices.Equal(kept, before) {
			t.Fatalf("P2: the outputs became %#v, were %#v", kept, before)
		}
		spoil(kept)
		turnSends(t, "behind the writing", other, 0, nil)
		turnSends(t, "behind the writing", one, 0, nil)
	}
}

// Inputs that are written over behind a turn do not change what waits.
func TestP2InputsAreNotKept(t *testing.T) {
	s := mustNew(t, ordinary())
	in := []api.Input{connect(0), comes(0, open(65001, 30, 7)[:20])}
	s.Turn(0, in)
	for i := range in {
		in[i] = reset(0)
	}
	turnSends(t, "the rest", s, 0, []api.Input{comes(0, open(65001, 30, 7)[20:])}, sent(0, alive))
}

// pieces are what random streams are made of: what may come, and what may not.
func pieces(as int) []string {
	return []string{
		alive, alive, alive, update, open(as, 30, 7), open(as, 0, 7), open(as, 3, 7), open(as+1, 30, 7), open(as, 2, 7),
		notice(6, 2, "why"), raw(5, ""), raw(api.Keepalive, "x"), mark, mark + "\xff\xff\x05", "\x00", "", alive[:10], alive[10:],
		raw(api.Update, strings.Repeat("\xff", 4077)), raw(api.Open, strings.Repeat("\x04", 4077)),
		news("", needed(0, seq(as)), ten), news("", needed(0, seq(as, 9)), ten+eleven), news(ten, needed(1, ""), eleven+"\x00"), news(ten, "", ""),
		news(eleven+"\x00", "", ""), news("", needed(0, seq(9))+metric(3), ten), news("", needed(2, seq(9)), ten+"\x01\x80\x02\xc0"), news("", seq(9), ten), news("\x21", "", ""),
	}
}

// turnAt is one turn of a random run.
type turnAt struct {
	ticks int
	in    []api.Input
}

// run is random turns for some peers. Runs that come far are likely: half of the pieces are what the handshake asks for.
func run(random *rand.Rand, peers []api.Peer) []turnAt {
	var all []turnAt
	for range 1 + random.Intn(30) {
		turn := turnAt{ticks: random.Intn(6) - 1}
		for range random.Intn(8) {
			peer := random.Intn(len(peers))
			switch n := random.Intn(20); {
			case n < 6:
				turn.in = append(turn.in, connect(peer))
			case n < 12:
				turn.in = append(turn.in, connect(peer), comes(peer, open(peers[peer].AS, random.Intn(12), 7)+alive))
			case n < 13:
				turn.in = append(turn.in, reset(peer))
			default:
				list := pieces(peers[peer].AS)
				turn.in = append(turn.in, comes(peer, list[random.Intn(len(list))]))
			}
		}
		all = append(all, turn)
	}
	return all
}

// kindsOf are the types of messages, each as a digit; it fails the test if they are not whole.
func kindsOf(t *testing.T, data string) (kinds string) {
	t.Helper()
	for data != "" {
		if len(data) < 19 || !strings.HasPrefix(data, mark) {
			t.Fatalf("P5: no message begins with %x", data)
		}
		n := int(data[16])<<8 | int(data[17])
		if n < 19 || n > 4096 || n > len(data) {
			t.Fatalf("P5: a message of %d bytes, of %d", n, len(data))
		}
		kinds += string('0' + rune(data[18]))
		data = data[n:]
	}
	return kinds
}

// checkConnection fails the test if the bytes of one connection are not as P5 says; gone is whether the connection is.
func checkConnection(t *testing.T, data string, gone bool) {
	t.Helper()
	kinds := kindsOf(t, data)
	if !strings.HasPrefix(kinds, "1") || strings.Count(kinds, "1") > 1 {
		t.Fatalf("P5: the messages of a connection: %s, want one Open, first", kinds)
	}
	if i := strings.Index(kinds, "3"); i >= 0 && (i < len(kinds)-1 || !gone) {
		t.Fatalf("P5: the messages of a connection: %s, gone %v, want nothing behind a Notification", kinds, gone)
	}
	if i := strings.Index(kinds, "2"); i >= 0 && !strings.HasPrefix(kinds, "14") {
		t.Fatalf("P5: the messages of a connection: %s, want no Update ahead of the Keepalive", kinds)
	}
}

func TestP5WhateverComesIn(t *testing.T) {
	random := rand.New(rand.NewSource(2))
	c := eight()
	c.Peers = c.Peers[:3]
	established, chosen, updates := 0, 0, 0
	for range 3000 {
		s := mustNew(t, c)
		standing := make([]string, len(c.Peers)) // what was sent of each connection that stands
		for _, turn := range run(random, c.Peers) {
			told := make([]api.Output, len(c.Peers))
			for _, out := range s.Turn(turn.ticks, turn.in) {
				told[out.Peer] = out
			}
			for peer, out := range told {
				standing[peer] += out.Data
				gone := s.State(peer) == api.Idle
				if strings.Contains(kindsOf(t, out.Data), "2") {
					updates++
					if s.State(peer) != api.Established {
						t.Fatalf("P5: an Update in the state %d", s.State(peer))
					}
				}
				if out.Closed && !gone {
					t.Fatalf("P5: closed, and the state is %d", s.State(peer))
				}
				if standing[peer] != "" {
					checkConnection(t, standing[peer], gone)
				}
				if gone {
					standing[peer] = ""
				}
				if s.State(peer) == api.Established {
					established++
				}
			}
			chosen += len(s.Best())
		}
	}
	if established < 1000 || chosen < 1000 || updates < 500 {
		t.Errorf("P5: the test comes to Established %d times only, to %d best routes, and %d times to Updates", established, chosen, updates)
	}
}

// join makes one input of the bytes of a peer that stand one behind the other, of all that come ahead of another input of it.
func join(in []api.Input) []api.Input {
	var all []api.Input
	last := map[int]int{} // the place behind a peer's last input, if it is of bytes
	for _, input := range in {
		at := last[input.Peer]
		switch {
		case input.Kind != api.Bytes:
			all = append(all, input)
			last[input.Peer] = 0
		case at > 0:
			all[at-1].Data += input.Data
		default:
			all = append(all, input)
			last[input.Peer] = len(all)
		}
	}
	return all
}

// cut makes many inputs of the bytes of each, at random places.
func cut(random *rand.Rand, in []api.Input) []api.Input {
	var all []api.Input
	for _, input := range in {
		for input.Kind == api.Bytes && len(input.Data) > 0 && random.Intn(60) > 0 {
			n := random.Intn(min(len(input.Data), 40) + 1)
			all = append(all, comes(input.Peer, input.Data[:n]))
			input.Data = input.Data[n:]
		}
		all = append(all, input)
	}
	return all
}

// single makes an input of each byte.
func single(in []api.Input) []api.Input {
	var all []api.Input
	for _, input := range in {
		if input.Kind != api.Bytes {
			all = append(all, input)
			continue
		}
		for i := range len(input.Data) {
			all = append(all, comes(input.Peer, input.Data[i:i+1]))
		}
	}
	return all
}

func TestP9HowBytesAreCut(t *testing.T) {
	random := rand.New(rand.NewSource(3))
	c := eight()
	c.Peers = c.Peers[:3]
	for range 300 {
		whole, joined, torn, bytewise := mustNew(t, c), mustNew(t, c), mustNew(t, c), mustNew(t, c)
		for _, turn := range run(random, c.Peers) {
			want := whole.Turn(turn.ticks, turn.in)
			for i, got := range [][]api.Output{
				joined.Turn(turn.ticks, join(turn.in)), torn.Turn(turn.ticks, cut(random, turn.in)), bytewise.Turn(turn.ticks, single(turn.in)),
			} {
				if !slices.Equal(got, want) {
					t.Fatalf("P9: cut in way %d: Turn(%d, %#v) sends %#v, want %#v", i, turn.ticks, turn.in, got, want)
				}
			}
			for i, other := range []*Speaker{joined, torn, bytewise} {
				if got, want := other.Best(), whole.Best(); !slices.Equal(got, want) {
					t.Fatalf("P9: cut in way %d: Best is %+v, want %+v", i, got, want)
				}
			}
			for peer := range c.Peers {
				checkStates(t, "joined", joined, whole.State(0), whole.State(1), whole.State(2))
				if torn.State(peer) != whole.State(peer) || bytewise.State(peer) != whole.State(peer) {
					t.Fatalf("P9: State(%d) hangs on how the bytes are cut", peer)
				}
			}
		}
	}
}

// The same run answers the same, on one processor and on all.
func TestP2NoScheduleIsSeen(t *testing.T) {
	c := eight()
	turns := run(rand.New(rand.NewSource(4)), c.Peers)
	for seed := range int64(20) {
		turns = append(turns, run(rand.New(rand.NewSource(5+seed)), c.Peers)...)
	}
	answers := func() []any {
		s := mustNew(t, c)
		var all []any
		for _, turn := range turns {
			for _, out := range s.Turn(turn.ticks, turn.in) {
				all = append(all, out)
			}
			for _, r := range s.Best() {
				all = append(all, r)
			}
		}
		return all
	}
	want := answers()
	defer runtime.GOMAXPROCS(runtime.GOMAXPROCS(1))
	for procs := 1; procs <= 8; procs++ {
		runtime.GOMAXPROCS(procs)
		for range 5 {
			if got := answers(); !slices.Equal(got, want) {
				t.Fatalf("P2: on %d processors the same run answers otherwise", procs)
			}
		}
	}
}

// Behind a turn its goroutines are gone.
func TestP2NoGoroutineStays(t *testing.T) {
	before := runtime.NumGoroutine()
	s := mustNew(t, eight())
	for range 1000 {
		s.Turn(1, []api.Input{connect(0), comes(0, "junk"), comes(1, mark)})
	}
	for range 100 {
		if runtime.NumGoroutine() <= before {
			return
		}
		time.Sleep(10 * time.Millisecond)
	}
	t.Errorf("P2: %d goroutines behind the turns, %d ahead of them", runtime.NumGoroutine(), before)
}

// A turn of many bytes ends.
func TestP1ManyBytes(t *testing.T) {
	s := mustNew(t, ordinary())
	many := open(65001, 30, 7) + strings.Repeat(alive, 200000) + strings.Repeat(news("", needed(0, ""), strings.Repeat("\x00", 4000)), 500)
	var got []api.Output
	checkEnds(t, "Turn", func() {
		got = s.Turn(0, []api.Input{connect(0), comes(0, many), comes(0, strings.Repeat("\xff", 1<<22))})
	})
	if want := closed(0, open(65000, 90, 7)+alive+notice(1, 2, "\xff\xff")); !slices.Equal(got, []api.Output{want}) {
		t.Errorf("P4: many bytes: %#v, want %#v", got, want)
	}
}

// There are no best routes of sessions without Updates.
func TestP10BestWithoutRoutes(t *testing.T) {
	s := mustNew(t, ordinary())
	for range 3 {
		if got := s.Best(); len(got) != 0 {
			t.Errorf("P10: Best: %+v, want none", got)
		}
		s.Turn(1, []api.Input{connect(0), comes(0, open(65001, 30, 7)+alive+update)})
	}
}

// Each state is told, and of the right peer.
func TestP10States(t *testing.T) {
	s := mustNew(t, eight())
	s.Turn(0, []api.Input{connect(1), connect(2), comes(2, open(3, 30, 7)), connect(3), comes(3, open(4, 30, 7)+alive), connect(4), reset(4), connect(7)})
	checkStates(t, "a turn", s, api.Idle, api.OpenSent, api.OpenConfirm, api.Established, api.Idle, api.Idle, api.Idle, api.OpenSent, 0)
	for _, n := range oddNumbers() {
		if got := s.State(n); (n < 0 || n > 7) && got != 0 {
			t.Errorf("P10: State(%d): %d, want 0", n, got)
		}
	}
	checkStates(t, "asked again", s, api.Idle, api.OpenSent, api.OpenConfirm, api.Established)
}
