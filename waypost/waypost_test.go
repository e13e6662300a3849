package waypost

import (
	"math"
	"reflect"
	"slices"
	"strings"
	"sync"
	"testing"
	"time"

	"waypost/api"
)

// ordinary is a configuration of two peers that may be; its lists have spare room.
func ordinary() api.Config {
	anything := func() []api.Rule {
		return append(make([]api.Rule, 0, 5), api.Rule{Permit: true, Le: 32})
	}
	return api.Config{
		AS: 65000, ID: 7, NextHop: 0x0a000001,
		Peers: append(make([]api.Peer, 0, 6),
			api.Peer{AS: 65001, Hold: 90, Limit: 100, Pref: 100, Wait: 5, Import: anything(), Export: anything()},
			api.Peer{AS: 65000, Limit: 9, Import: anything(), Export: anything()}),
	}
}

// whole is a copy of c with the spare room of its lists, as a list of everything in it.
func whole(c api.Config) []any {
	all := []any{c.AS, c.ID, c.NextHop}
	for _, p := range c.Peers[:cap(c.Peers)] {
		imports, exports := slices.Clone(p.Import[:cap(p.Import)]), slices.Clone(p.Export[:cap(p.Export)])
		p.Import, p.Export = nil, nil
		all = append(all, p, imports, exports)
	}
	return all
}

// scribble writes over everything that c's lists hold, their spare room too.
func scribble(c api.Config) {
	for i, p := range c.Peers[:cap(c.Peers)] {
		for _, rules := range [][]api.Rule{p.Import[:cap(p.Import)], p.Export[:cap(p.Export)]} {
			for j := range rules {
				rules[j] = api.Rule{Addr: 3, Len: -5, Ge: 99, Le: -99}
			}
		}
		c.Peers[:cap(c.Peers)][i] = api.Peer{AS: -1}
	}
}

// mustNew is the speaker of c, which may be.
func mustNew(t *testing.T, c api.Config) *Speaker {
	t.Helper()
	s, fault := New(c)
	if s == nil || fault != (api.Fault{}) {
		t.Fatalf("P3: New: a speaker %v, fault %+v, want one and none", s != nil, fault)
	}
	return s
}

// checkEnds fails the test if call panics or does not end.
func checkEnds(t *testing.T, name string, call func()) {
	t.Helper()
	ended := make(chan any, 1)
	go func() {
		defer func() { ended <- recover() }()
		call()
	}()
	select {
	case panicked := <-ended:
		if panicked != nil {
			t.Errorf("P1: %s panics: %v", name, panicked)
		}
	case <-time.After(time.Minute):
		t.Fatalf("P1: %s does not end", name)
	}
}

// oddNumbers are at the edges of the kinds of numbers and of the document's bounds.
func oddNumbers() []int {
	return []int{
		math.MinInt, math.MinInt + 1, -1 << 32, -65536, -33, -2, -1, 0, 1, 2, 3, 7, 8, 9, 31, 32, 33, 63, 64, 65,
		1000, 1001, 65535, 65536, 1 << 31, 1<<31 + 1, 1 << 32, api.MaxTime, api.MaxTime + 1, math.MaxInt - 1, math.MaxInt,
	}
}

func TestP3New(t *testing.T) {
	mustNew(t, ordinary())
	mustNew(t, api.Config{AS: 1, ID: 1})
	for _, c := range []struct {
		name  string
		wrong func(c *api.Config)
		peer  int
	}{
		{"AS", func(c *api.Config) { c.AS = 65536 }, 0},
		{"ID", func(c *api.Config) { c.ID = 0 }, 0},
		{"nine peers", func(c *api.Config) { c.Peers = make([]api.Peer, 9) }, 0},
		{"the first peer", func(c *api.Config) { c.Peers[0].Hold = 2 }, 1},
		{"the second peer", func(c *api.Config) { c.Peers[1].Export[0].Le = 33 }, 2},
		{"both peers", func(c *api.Config) { c.Peers[0].Limit, c.Peers[1].Wait = -1, 1001 }, 1},
		{"everything", func(c *api.Config) { *c = api.Config{AS: -1, Peers: []api.Peer{{AS: -1}}} }, 0},
	} {
		with := ordinary()
		c.wrong(&with)
		s, fault := New(with)
		if want := (api.Fault{Code: api.ErrConfig, Peer: c.peer}); s != nil || fault != want {
			t.Errorf("P3: wrong %s: a speaker %v, fault %+v, want none and %+v", c.name, s != nil, fault, want)
		}
	}
}

func TestP10StateOfANewSpeaker(t *testing.T) {
	c := ordinary()
	c.Peers = slices.Repeat([]api.Peer{{AS: 9}}, api.MaxPeers)
	for _, s := range []*Speaker{mustNew(t, c), mustNew(t, ordinary()), mustNew(t, api.Config{AS: 1, ID: 1})} {
		for _, peer := range oddNumbers() {
			if got := s.State(peer); got != api.Idle {
				t.Errorf("P10: State(%d) of a new speaker: %d, want %d", peer, got, api.Idle)
			}
		}
	}
}

func TestP1NewAtOddNumbers(t *testing.T) {
	for _, n := range oddNumbers() {
		for i, set := range []func(c *api.Config){
			func(c *api.Config) { c.AS = n },
			func(c *api.Config) { c.ID = uint32(n) },
			func(c *api.Config) { c.NextHop = uint32(n) },
			func(c *api.Config) { c.Peers[0].AS = n },
			func(c *api.Config) { c.Peers[0].Hold = n },
			func(c *api.Config) { c.Peers[0].Limit = n },
			func(c *api.Config) { c.Peers[0].Pref = n },
			func(c *api.Config) { c.Peers[0].Wait = n },
			func(c *api.Config) { c.Peers[0].Import[0].Addr = uint32(n) },
			func(c *api.Config) { c.Peers[0].Import[0].Len = n },
			func(c *api.Config) { c.Peers[0].Import[0].Ge = n },
			func(c *api.Config) { c.Peers[0].Import[0].Le = n },
			func(c *api.Config) { c.Peers[1].Export[0] = api.Rule{Addr: uint32(n), Len: n, Ge: n, Le: n} },
		} {
			checkEnds(t, "New", func() {
				c := ordinary()
				set(&c)
				if s, fault := New(c); (s == nil) != (fault.Code == api.ErrConfig) {
					t.Errorf("P3: number %d set to %d: a speaker %v, fault %+v", i, n, s != nil, fault)
				}
			})
		}
	}
}

func TestP1NewAtOddLists(t *testing.T) {
	for _, c := range []api.Config{
		{},
		{AS: 1, ID: 1, Peers: []api.Peer{}},
		{AS: 1, ID: 1, Peers: []api.Peer{{}}},
		{AS: 1, ID: 1, Peers: make([]api.Peer, 100000)},
		{AS: 1, ID: 1, Peers: []api.Peer{{AS: 1, Import: []api.Rule{}, Export: []api.Rule{}}}},
		{AS: 1, ID: 1, Peers: []api.Peer{{AS: 1, Import: make([]api.Rule, 100000)}}},
		{AS: 1, ID: 1, Peers: []api.Peer{{AS: 1, Export: make([]api.Rule, 100000)}}},
	} {
		checkEnds(t, "New", func() { New(c) })
	}
}

func TestP1CallsOfASpeaker(t *testing.T) {
	texts := []string{"", "\x00", "\xff", strings.Repeat("\xff", 18) + "\x05", strings.Repeat("\xff", 100000)}
	for _, c := range []api.Config{ordinary(), {AS: 1, ID: 1}} {
		s := mustNew(t, c)
		for _, n := range oddNumbers() {
			checkEnds(t, "State", func() { s.State(n) })
			checkEnds(t, "Turn without inputs", func() { s.Turn(n, nil) })
			checkEnds(t, "Turn with none", func() { s.Turn(n, []api.Input{}) })
			checkEnds(t, "Best", func() { s.Best() })
			for _, text := range texts {
				checkEnds(t, "Turn", func() {
					s.Turn(n, []api.Input{{Peer: n, Kind: api.Bytes, Data: text}, {Kind: n, Data: text}, {Peer: n, Kind: n}})
				})
			}
		}
	}
}

// callAll makes every call of a speaker once.
func callAll(s *Speaker, in []api.Input) {
	s.Turn(1, in)
	s.State(0)
	s.Best()
}

func TestP2NothingHandedInIsWrittenInto(t *testing.T) {
	c, wrong := ordinary(), ordinary()
	wrong.Peers[1].Wait = -1
	for _, handed := range []api.Config{c, wrong} {
		before := whole(handed)
		in := append(make([]api.Input, 0, 4), api.Input{Kind: api.Connect}, api.Input{Peer: 1, Kind: api.Bytes, Data: "\xff"})
		inBefore := slices.Clone(in[:cap(in)])
		if s, _ := New(handed); s != nil {
			callAll(s, in)
		}
		if after := whole(handed); !reflect.DeepEqual(after, before) {
			t.Errorf("P2: the configuration was written into: %+v, was %+v", after, before)
		}
		if after := in[:cap(in)]; !slices.Equal(after, inBefore) {
			t.Errorf("P2: the inputs were written into: %+v, were %+v", after, inBefore)
		}
	}
}

// The caller may write over its configuration behind New.
func TestP2TheConfigurationIsNotKept(t *testing.T) {
	c := ordinary()
	s := mustNew(t, c)
	scribble(c)
	if want := mustNew(t, ordinary()); !reflect.DeepEqual(s, want) {
		t.Errorf("P2: the speaker was changed from without: %+v, want %+v", s, want)
	}
	turnSends(t, "behind the writing", s, 0, []api.Input{connect(0), connect(1)}, sent(0, open(65000, 90, 7)), sent(1, open(65000, 0, 7)))
	turnSends(t, "behind the writing", s, 0, []api.Input{comes(0, open(65001, 0, 7)), comes(1, open(65000, 0, 7))}, sent(0, alive), sent(1, alive))
	checkStates(t, "behind the writing", s, api.OpenConfirm, api.OpenConfirm)
}

func TestP2SpeakersShareNothing(t *testing.T) {
	c := ordinary()
	one, other := mustNew(t, c), mustNew(t, c)
	turnSends(t, "one", one, 1000, []api.Input{connect(0), comes(0, open(65001, 30, 7)+alive[:9])}, sent(0, open(65000, 90, 7)+alive))
	checkStates(t, "the other", other, api.Idle, api.Idle)
	turnSends(t, "the other", other, 5, []api.Input{comes(0, alive[9:])})
	turnSends(t, "the other", other, 0, []api.Input{connect(0)}, sent(0, open(65000, 90, 7)))
	turnSends(t, "the other", other, 90, nil, closed(0, notice(4, 0, "")))
	turnSends(t, "one", one, 0, []api.Input{comes(0, alive[9:])})
	checkStates(t, "one", one, api.Established, api.Idle)
}

// Several speakers of one configuration, each in a goroutine: what is answered hangs on no schedule.
func TestP2SpeakersSideBySide(t *testing.T) {
	c := ordinary()
	var all sync.WaitGroup
	for range 16 {
		all.Go(func() {
			s, fault := New(c)
			if s == nil || fault != (api.Fault{}) {
				t.Errorf("P2: side by side: a speaker %v, fault %+v", s != nil, fault)
				return
			}
			callAll(s, nil)
		})
	}
	all.Wait()
}
