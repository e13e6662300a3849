package session

import (
	"slices"
	"strings"
	"testing"

	"waypost/api"
)

const mark = "\xff\xff\xff\xff\xff\xff\xff\xff\xff\xff\xff\xff\xff\xff\xff\xff"

func raw(kind int, body string) string {
	n := 19 + len(body)
	return mark + string([]byte{byte(n >> 8), byte(n), byte(kind)}) + body
}

// open is an Open with a hold time below 65536, of an AS below 256.
func open(as, hold int) string {
	return raw(api.Open, string([]byte{4, 0, byte(as), byte(hold >> 8), byte(hold), 0, 0, 0, 7, 0}))
}

func notice(code, subcode byte, data string) string {
	return raw(api.Notification, string([]byte{code, subcode})+data)
}

var (
	alive  = raw(api.Keepalive, "")
	update = raw(api.Update, "\x00\x00\x00\x00")
)

var (
	connect = api.Input{Kind: api.Connect}
	reset   = api.Input{Kind: api.Reset}
)

func comes(data string) api.Input { return api.Input{Kind: api.Bytes, Data: data} }

// mine is what a session with a peer of AS 9 and this Hold sends first.
func mine(hold int) string {
	return raw(api.Open, string([]byte{4, 0xfd, 0xe8, byte(hold >> 8), byte(hold), 1, 2, 3, 4, 0}))
}

// with is a session of the speaker with the AS 65000 and such a peer.
func with(peer api.Peer) Session {
	return New(api.Config{AS: 65000, ID: 0x01020304, NextHop: 0x0a0a0a0a, Peers: []api.Peer{peer}}, 0)
}

func withHold(hold int) *Session {
	s := with(api.Peer{AS: 9, Hold: hold})
	return &s
}

// turnSends fails the test if a turn does not send want, or leaves another state.
func turnSends(t *testing.T, what string, s *Session, now int, want string, closed bool, state int, in ...api.Input) {
	t.Helper()
	r := s.Turn(now, in)
	if string(r.Sent) != want || r.Closed != closed || s.State() != state {
		t.Fatalf("P4: %s: sends %x, closed %v, state %d; want %x, %v, %d", what, r.Sent, r.Closed, s.State(), want, closed, state)
	}
}

// inState is a session with a peer of Hold 90 and hold time 30, brought to a state at the time 0.
func inState(t *testing.T, state int) *Session {
	t.Helper()
	s := withHold(90)
	in := []api.Input{connect, comes(open(9, 30)), comes(alive)}[:state]
	s.Turn(0, in)
	if s.State() != state {
		t.Fatalf("P4: state %d, want %d", s.State(), state)
	}
	return s
}

func TestP4Handshake(t *testing.T) {
	s := withHold(90)
	turnSends(t, "nothing", s, 0, "", false, api.Idle)
	turnSends(t, "Connect", s, 0, mine(90), false, api.OpenSent, connect)
	turnSends(t, "Open", s, 0, alive, false, api.OpenConfirm, comes(open(9, 30)))
	turnSends(t, "Keepalive", s, 0, "", false, api.Established, comes(alive))
	turnSends(t, "Keepalive and Update", s, 0, "", false, api.Established, comes(alive+update+alive))
	s = withHold(0)
	turnSends(t, "all at once", s, 5, mine(0)+alive, false, api.Established, connect, comes(open(9, 30)+alive+update))
}

func TestP4ConnectWhereAConnectionStands(t *testing.T) {
	for state := api.OpenSent; state <= api.Established; state++ {
		s := inState(t, state)
		turnSends(t, "Connect", s, 1, "", false, state, connect, connect)
	}
}

// Each type of message in each state.
func TestP4WhatBelongsWhere(t *testing.T) {
	wrong := notice(5, 0, "")
	for _, c := range []struct {
		name, data             string
		sent, confirm, settled string // what is answered
		next                   [3]int
	}{
		{"Open", open(9, 30), alive, wrong, wrong, [3]int{api.OpenConfirm, api.Idle, api.Idle}},
		{"Update", update, wrong, wrong, "", [3]int{api.Idle, api.Idle, api.Established}},
		{"Keepalive", alive, wrong, "", "", [3]int{api.Idle, api.Established, api.Established}},
		{"Notification", notice(6, 2, "why"), "", "", "", [3]int{}},
		{"the shortest Notification", notice(0, 0, ""), "", "", "", [3]int{}},
	} {
		for i, want := range []string{c.sent, c.confirm, c.settled} {
			s := inState(t, api.OpenSent+i)
			turnSends(t, c.name, s, 1, want, c.next[i] == api.Idle, c.next[i], comes(c.data))
		}
	}
}

// What does not belong is told ahead of what is wrong with it.
func TestP4WhatDoesNotBelongIsNotRead(t *testing.T) {
	for _, state := range []int{api.OpenConfirm, api.Established} {
		turnSends(t, "a wrong Open", inState(t, state), 0, notice(5, 0, ""), true, api.Idle, comes(open(8, 1)))
	}
	wrong := raw(api.Update, "\xff\xff\xff\xff")
	turnSends(t, "a wrong Update", inState(t, api.OpenSent), 0, notice(5, 0, ""), true, api.Idle, comes(wrong))
	turnSends(t, "a wrong Update", inState(t, api.OpenConfirm), 0, notice(5, 0, ""), true, api.Idle, comes(wrong))
}

// A header is looked at in each state; what does not belong is told when it is whole.
func TestP4HeadersInEachState(t *testing.T) {
	for state := api.OpenSent; state <= api.Established; state++ {
		turnSends(t, "a wrong header", inState(t, state), 0, notice(1, 3, "\x09"), true, api.Idle, comes(raw(9, "")))
	}
	s := inState(t, api.Established)
	turnSends(t, "an Open but for a byte", s, 0, "", false, api.Established, comes(open(9, 30)[:28]))
	turnSends(t, "the byte", s, 0, notice(5, 0, ""), true, api.Idle, comes("\x00"))
}

func TestP4RefusedOpens(t *testing.T) {
	turnSends(t, "AS", inState(t, api.OpenSent), 0, notice(2, 2, ""), true, api.Idle, comes(open(8, 30)))
	turnSends(t, "hold 1", inState(t, api.OpenSent), 0, notice(2, 6, ""), true, api.Idle, comes(open(9, 1)))
	turnSends(t, "hold 2", inState(t, api.OpenSent), 0, notice(2, 6, ""), true, api.Idle, comes(open(9, 2)))
	turnSends(t, "a byte more", inState(t, api.OpenSent), 0, notice(2, 4, ""), true, api.Idle, comes(raw(api.Open, open(9, 30)[19:]+"\x00")))
}

func TestP4InIdleBytesAreLost(t *testing.T) {
	s := withHold(90)
	turnSends(t, "an Open", s, 0, "", false, api.Idle, comes(open(9, 30)))
	turnSends(t, "what may not be", s, 0, "", false, api.Idle, comes(strings.Repeat("\x00", 100)), comes(mark))
	turnSends(t, "Connect", s, 0, mine(90), false, api.OpenSent, comes(mark), connect)
	turnSends(t, "Open", s, 0, alive, false, api.OpenConfirm, comes(open(9, 30)))
}

func TestP4Reset(t *testing.T) {
	for state := api.Idle; state <= api.Established; state++ {
		s := inState(t, state)
		turnSends(t, "Reset", s, 1, "", false, api.Idle, reset, connect, comes(open(9, 30)))
		turnSends(t, "Connect behind it", s, 1, mine(90), false, api.OpenSent, connect)
	}
	turnSends(t, "Connect and Reset", withHold(90), 0, mine(90), false, api.Idle, connect, reset, connect)
}

// What has come of a message waits, and is lost when the connection goes.
func TestP4WhatWaits(t *testing.T) {
	s := inState(t, api.OpenSent)
	turnSends(t, "a half", s, 1, "", false, api.OpenSent, comes(open(9, 30)[:20]))
	turnSends(t, "no more", s, 2, "", false, api.OpenSent)
	turnSends(t, "the rest, and a half", s, 3, alive, false, api.OpenConfirm, comes(open(9, 30)[20:]+alive[:10]))
	turnSends(t, "Reset", s, 4, "", false, api.Idle, reset)
	turnSends(t, "Connect", s, 5, mine(90), false, api.OpenSent, connect)
	turnSends(t, "a whole one", s, 6, alive, false, api.OpenConfirm, comes(open(9, 30)+alive[:18]))
	turnSends(t, "a Notification", s, 7, notice(1, 1, ""), true, api.Idle, comes("\x04\x00"+alive))
	turnSends(t, "Connect", s, 8, mine(90), false, api.OpenSent, connect)
	turnSends(t, "a whole one", s, 9, alive, false, api.OpenConfirm, comes(open(9, 30)))
}

// Behind a close nothing else of the turn is looked at, neither of the same bytes nor of other inputs.
func TestP5NothingBehindAClose(t *testing.T) {
	for _, c := range []struct{ name, data, want string }{
		{"a refused message", open(9, 30), notice(5, 0, "")},
		{"a refused header", raw(5, ""), notice(1, 3, "\x05")},
		{"a Notification", notice(6, 2, ""), ""},
	} {
		for _, more := range []string{"", "x", alive, c.data, c.data + c.data, strings.Repeat("\x00", 50)} {
			s := inState(t, api.Established)
			turnSends(t, c.name, s, 1, c.want, true, api.Idle, comes(c.data+more), comes(more), connect, reset, comes(c.data))
			turnSends(t, "bytes behind it", s, 1, "", false, api.Idle, comes(c.data))
			turnSends(t, "Connect behind it", s, 1, mine(90), false, api.OpenSent, connect)
		}
	}
	turnSends(t, "all at one turn", withHold(90), 0, mine(90)+alive+notice(5, 0, ""), true, api.Idle, connect, comes(open(9, 30)+alive+open(9, 30)))
	turnSends(t, "all at one turn", withHold(90), 0, mine(90)+alive, true, api.Idle, connect, comes(open(9, 30)+alive+notice(6, 2, "")+alive))
}

func TestP4HoldTimeBeforeTheOpen(t *testing.T) {
	for _, hold := range []int{3, 4, 90, 65535} {
		s := withHold(hold)
		turnSends(t, "Connect", s, 7, mine(hold), false, api.OpenSent, connect)
		turnSends(t, "a tick less", s, 7+hold-1, "", false, api.OpenSent, comes(mark))
		turnSends(t, "silence", s, 7+hold, notice(4, 0, ""), true, api.Idle, comes("\x00\x13\x04"), connect, reset)
		turnSends(t, "behind it", s, 7+hold+hold, "", false, api.Idle)
	}
	s := withHold(0)
	s.Turn(0, []api.Input{connect})
	turnSends(t, "no hold time", s, api.MaxTime, "", false, api.OpenSent)
}

// The hold time is the lesser one of both, and 0 if one of both is.
func TestP4HoldTimeOfBoth(t *testing.T) {
	for _, c := range []struct{ own, its, want int }{
		{90, 30, 30}, {30, 90, 30}, {90, 90, 90}, {3, 65535, 3}, {65535, 3, 3}, {65535, 65535, 65535}, {4, 5, 4}, {256, 300, 256},
		{0, 30, 0}, {30, 0, 0}, {0, 0, 0}, {65535, 0, 0},
	} {
		for _, confirmed := range []string{"", alive} {
			s := withHold(c.own)
			s.Turn(0, []api.Input{connect, comes(open(9, c.its) + confirmed)})
			state := s.State()
			if c.want == 0 {
				turnSends(t, "no hold time", s, api.MaxTime, "", false, state)
				continue
			}
			turnSends(t, "a tick less than a third", s, c.want/3-1, "", false, state)
			turnSends(t, "a third", s, c.want/3, alive, false, state)
			turnSends(t, "a tick less", s, c.want-1, alive, false, state)
			turnSends(t, "silence", s, c.want, notice(4, 0, ""), true, api.Idle)
		}
	}
}

// Each whole message is a sign of life, half of one is not.
func TestP4SignsOfLife(t *testing.T) {
	s := inState(t, api.OpenConfirm)
	s.Turn(29, []api.Input{comes(alive)})
	s.Turn(58, []api.Input{comes(update)})
	s.Turn(87, []api.Input{comes(update[:22])})
	turnSends(t, "half a message", s, 88, notice(4, 0, ""), true, api.Idle)
	s = inState(t, api.OpenSent)
	s.Turn(80, []api.Input{comes(open(9, 80))})
	turnSends(t, "an Open at 80", s, 159, alive, false, api.OpenConfirm)
	turnSends(t, "an Open at 80", s, 160, notice(4, 0, ""), true, api.Idle)
}

// A Connect where a connection stands, and bytes of no message, set no timer anew.
func TestP4TimersStartOnce(t *testing.T) {
	s := withHold(9)
	s.Turn(0, []api.Input{connect})
	s.Turn(8, []api.Input{connect, comes("")})
	turnSends(t, "silence", s, 9, notice(4, 0, ""), true, api.Idle)
	turnSends(t, "a new connection", s, 10, mine(9), false, api.OpenSent, connect)
	turnSends(t, "its own time", s, 18, "", false, api.OpenSent)
	turnSends(t, "its own time", s, 19, notice(4, 0, ""), true, api.Idle)
}

func TestP4Keepalives(t *testing.T) {
	s := withHold(30)
	s.Turn(0, []api.Input{connect})
	turnSends(t, "none in OpenSent", s, 25, "", false, api.OpenSent)
	turnSends(t, "the one behind the Open", s, 29, alive, false, api.OpenConfirm, comes(open(9, 30)))
	turnSends(t, "since that one", s, 38, "", false, api.OpenConfirm)
	turnSends(t, "ahead of what comes in", s, 39, alive, false, api.Established, comes(alive))
	turnSends(t, "since that one", s, 48, "", false, api.Established, comes(alive))
	turnSends(t, "but one, however late", s, 75, alive, false, api.Established, comes(alive))
	turnSends(t, "no second one", s, 75, "", false, api.Established)
	turnSends(t, "ahead of a Notification", s, 85, alive+notice(5, 0, ""), true, api.Idle, comes(open(9, 30)))
	turnSends(t, "none in Idle", s, 1000, "", false, api.Idle)
}

func TestP4KeepaliveAndReset(t *testing.T) {
	s := inState(t, api.Established)
	turnSends(t, "Reset", s, 10, alive, false, api.Idle, reset)
	s = inState(t, api.Established)
	turnSends(t, "a Notification", s, 10, alive, true, api.Idle, comes(notice(6, 0, "")))
}

func TestP1OddInputs(t *testing.T) {
	for state := api.Idle; state <= api.Established; state++ {
		s := inState(t, state)
		for _, kind := range []int{-1 << 63, -1, 0, 4, 1<<63 - 1} {
			turnSends(t, "another kind", s, 1, "", false, state, api.Input{Kind: kind, Data: strings.Repeat("x", 99)})
		}
		turnSends(t, "no bytes", s, 1, "", false, state, comes(""), comes(""))
	}
}

// What was sent is the caller's: it does not change at a later turn.
func TestP2ReportsAreTheirOwn(t *testing.T) {
	s := withHold(90)
	r := s.Turn(0, []api.Input{connect})
	before := slices.Clone(r.Sent)
	s.Turn(1, []api.Input{comes(open(9, 30) + alive + "junk" + mark)})
	if !slices.Equal(r.Sent, before) {
		t.Errorf("P2: what was sent became %x, was %x", r.Sent, before)
	}
}
