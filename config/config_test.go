package config

import (
	"math"
	"reflect"
	"slices"
	"testing"

	"waypost/api"
)

// ordinary is a configuration of three peers that may be.
func ordinary() api.Config {
	return api.Config{
		AS: 65000, ID: 7, NextHop: 0x0a000001,
		Peers: []api.Peer{
			{
				AS: 65001, Hold: 90, Limit: 100, Pref: 100, Wait: 5,
				Import: []api.Rule{{Addr: 10 << 24, Len: 8, Ge: 8, Le: 24}, {Permit: true, Le: 32}},
				Export: []api.Rule{{Permit: true, Le: 32}},
			},
			{AS: 65000, Limit: 9, Import: []api.Rule{{Permit: true, Le: 32}}},
			{AS: 65002, Hold: 3, Export: []api.Rule{{Permit: true, Addr: 192<<24 | 168<<16, Len: 16, Ge: 16, Le: 32}}},
		},
	}
}

// number is one number of a configuration: how to set it, and at which peer a fault of it is told.
type number struct {
	name string
	set  func(c *api.Config, n int)
	peer int
}

var (
	ofAS     = number{"AS", func(c *api.Config, n int) { c.AS = n }, 0}
	ofPeerAS = number{"peer's AS", func(c *api.Config, n int) { c.Peers[1].AS = n }, 2}
	ofHold   = number{"Hold", func(c *api.Config, n int) { c.Peers[0].Hold = n }, 1}
	ofLimit  = number{"Limit", func(c *api.Config, n int) { c.Peers[2].Limit = n }, 3}
	ofPref   = number{"Pref", func(c *api.Config, n int) { c.Peers[1].Pref = n }, 2}
	ofWait   = number{"Wait", func(c *api.Config, n int) { c.Peers[2].Wait = n }, 3}
)

func TestP3Numbers(t *testing.T) {
	for _, c := range []struct {
		number
		may, mayNot []int
	}{
		{ofAS, []int{1, 2, 65534, 65535}, []int{0, 65536, -1, math.MinInt, math.MaxInt, 1 << 32, 1<<32 + 1}},
		{ofPeerAS, []int{1, 2, 65534, 65535}, []int{0, 65536, -1, math.MinInt, math.MaxInt, 1<<16 + 1}},
		{ofHold, []int{0, 3, 4, 65534, 65535}, []int{1, 2, 65536, -1, -3, math.MinInt, math.MaxInt}},
		{ofLimit, []int{0, 1, math.MaxInt}, []int{-1, math.MinInt}},
		{ofPref, []int{0, 1, 2147483647, 2147483648}, []int{-1, 2147483649, math.MinInt, math.MaxInt}},
		{ofWait, []int{0, 1, 999, 1000}, []int{-1, 1001, math.MinInt, math.MaxInt}},
	} {
		for _, n := range c.may {
			with := ordinary()
			c.set(&with, n)
			if got := Check(with); got != (api.Fault{}) {
				t.Errorf("P3: %s %d: %+v, want none", c.name, n, got)
			}
		}
		for _, n := range c.mayNot {
			with := ordinary()
			c.set(&with, n)
			if got, want := Check(with), (api.Fault{Code: api.ErrConfig, Peer: c.peer}); got != want {
				t.Errorf("P3: %s %d: %+v, want %+v", c.name, n, got, want)
			}
		}
	}
}

func TestP3Speaker(t *testing.T) {
	for _, id := range []uint32{1, 1 << 31, math.MaxUint32} {
		c := ordinary()
		c.ID = id
		if got := Check(c); got != (api.Fault{}) {
			t.Errorf("P3: ID %d: %+v, want none", id, got)
		}
	}
	for _, hop := range []uint32{0, math.MaxUint32} {
		c := ordinary()
		c.NextHop = hop
		if got := Check(c); got != (api.Fault{}) {
			t.Errorf("P3: NextHop %d: %+v, want none", hop, got)
		}
	}
	c := ordinary()
	c.ID = 0
	if got := Check(c); got != (api.Fault{Code: api.ErrConfig}) {
		t.Errorf("P3: ID 0: %+v, want ErrConfig of no peer", got)
	}
}

func TestP3Counts(t *testing.T) {
	for _, n := range []int{0, 1, 7, 8, 9, 10, 1000} {
		c := ordinary()
		c.Peers = slices.Repeat([]api.Peer{{AS: 9}}, n)
		want := api.Fault{}
		if n > 8 {
			want.Code = api.ErrConfig
		}
		if got := Check(c); got != want {
			t.Errorf("P3: %d peers: %+v, want %+v", n, got, want)
		}
	}
	for _, n := range []int{0, 1, 7, 8, 9, 10, 1000} {
		rules := slices.Repeat([]api.Rule{{Permit: true, Le: 32}}, n)
		want := api.Fault{}
		if n > 8 {
			want = api.Fault{Code: api.ErrConfig, Peer: 2}
		}
		c := ordinary()
		c.Peers[1].Import = rules
		if got := Check(c); got != want {
			t.Errorf("P3: %d rules of Import: %+v, want %+v", n, got, want)
		}
		c = ordinary()
		c.Peers[1].Export = rules
		if got := Check(c); got != want {
			t.Errorf("P3: %d rules of Export: %+v, want %+v", n, got, want)
		}
	}
}

// checkRule looks at r as the only rule of a filter, the first of two and the last of eight.
func checkRule(t *testing.T, r api.Rule, may bool) {
	t.Helper()
	any := api.Rule{Permit: true, Le: 32}
	want := api.Fault{}
	if !may {
		want = api.Fault{Code: api.ErrConfig, Peer: 3}
	}
	for _, rules := range [][]api.Rule{{r}, {r, any}, append(slices.Repeat([]api.Rule{any}, 7), r)} {
		c := ordinary()
		c.Peers[2].Import = rules
		if got := Check(c); got != want {
			t.Errorf("P3: Import with rule %+v: %+v, want %+v", r, got, want)
		}
		c = ordinary()
		c.Peers[2].Export = rules
		if got := Check(c); got != want {
			t.Errorf("P3: Export with rule %+v: %+v, want %+v", r, got, want)
		}
	}
}

func TestP3Rules(t *testing.T) {
	for _, r := range []api.Rule{
		{}, {Permit: true}, {Le: 32}, {Ge: 32, Le: 32},
		{Addr: 10 << 24, Len: 8, Ge: 8, Le: 8},
		{Addr: 10 << 24, Len: 8, Ge: 9, Le: 24},
		{Len: 8, Ge: 8, Le: 32},
		{Addr: 1 << 31, Len: 1, Ge: 1, Le: 1},
		{Addr: math.MaxUint32 - 1, Len: 31, Ge: 31, Le: 32},
		{Addr: math.MaxUint32, Len: 32, Ge: 32, Le: 32},
	} {
		checkRule(t, r, true)
	}
	for _, r := range []api.Rule{
		{Len: -1, Ge: -1}, {Len: -1, Le: 32}, {Len: math.MinInt, Ge: math.MinInt},
		{Len: 33, Ge: 33, Le: 33}, {Len: 33, Ge: 32, Le: 32}, {Len: math.MaxInt, Ge: math.MaxInt, Le: math.MaxInt},
		{Len: 8, Ge: 7, Le: 32}, {Len: 8, Ge: -1, Le: 32}, {Ge: -1, Le: 32}, {Len: 8, Le: 32}, {Len: 8, Ge: math.MinInt, Le: 32},
		{Len: 8, Ge: 10, Le: 9}, {Len: 8, Ge: 8, Le: 7}, {Ge: 1}, {Le: -1}, {Len: 8, Ge: 8, Le: math.MinInt},
		{Len: 8, Ge: 8, Le: 33}, {Ge: 33, Le: 33}, {Len: 32, Ge: 32, Le: 33}, {Len: 8, Ge: 8, Le: math.MaxInt},
		{Addr: 1, Le: 32}, {Addr: 1 << 31, Le: 32}, {Addr: math.MaxUint32, Le: 32},
		{Addr: 1, Len: 31, Ge: 31, Le: 32}, {Addr: 1 << 30, Len: 1, Ge: 1, Le: 32}, {Addr: 10<<24 | 1, Len: 8, Ge: 8, Le: 32},
	} {
		checkRule(t, r, false)
	}
}

// Each length of a rule: its last bit may stand, the one behind it may not.
func TestP3BitsBehindTheLength(t *testing.T) {
	for length := range 33 {
		r := api.Rule{Len: length, Ge: length, Le: length}
		if length > 0 {
			r.Addr = 1 << (32 - length)
		}
		checkRule(t, r, true)
		if length < 32 {
			r.Addr |= 1 << (31 - length)
			checkRule(t, r, false)
		}
	}
}

func TestP3WhichPeer(t *testing.T) {
	wrongPeer := func(i int) func(*api.Config) {
		return func(c *api.Config) { c.Peers[i].AS = 0 }
	}
	for _, c := range []struct {
		name  string
		wrong []func(*api.Config)
		peer  int
	}{
		{"AS and a peer", []func(*api.Config){func(c *api.Config) { c.AS = 0 }, wrongPeer(0)}, 0},
		{"ID and a peer", []func(*api.Config){func(c *api.Config) { c.ID = 0 }, wrongPeer(2)}, 0},
		{"nine peers, one wrong", []func(*api.Config){func(c *api.Config) { c.Peers = append(c.Peers, make([]api.Peer, 6)...) }}, 0},
		{"the first and the last", []func(*api.Config){wrongPeer(2), wrongPeer(0)}, 1},
		{"the second and the last", []func(*api.Config){wrongPeer(1), wrongPeer(2)}, 2},
		{"the last", []func(*api.Config){wrongPeer(2)}, 3},
		{"a filter ahead of an AS", []func(*api.Config){func(c *api.Config) { c.Peers[1].Export = make([]api.Rule, 9) }, wrongPeer(2)}, 2},
		{"an AS ahead of a filter", []func(*api.Config){wrongPeer(0), func(c *api.Config) { c.Peers[1].Import = []api.Rule{{Len: 33}} }}, 1},
		{"all at one peer", []func(*api.Config){func(c *api.Config) {
			c.Peers[1] = api.Peer{AS: -1, Hold: 1, Limit: -1, Pref: -1, Wait: -1, Import: make([]api.Rule, 9), Export: make([]api.Rule, 9)}
		}}, 2},
	} {
		with := ordinary()
		for _, f := range c.wrong {
			f(&with)
		}
		if got, want := Check(with), (api.Fault{Code: api.ErrConfig, Peer: c.peer}); got != want {
			t.Errorf("P3: %s: %+v, want %+v", c.name, got, want)
		}
	}
}

// The eighth peer is counted from 1 too.
func TestP3LastOfEightPeers(t *testing.T) {
	c := ordinary()
	c.Peers = slices.Repeat([]api.Peer{{AS: 9}}, 8)
	c.Peers[7].Wait = 1001
	if got, want := Check(c), (api.Fault{Code: api.ErrConfig, Peer: 8}); got != want {
		t.Errorf("P3: the eighth peer: %+v, want %+v", got, want)
	}
}

// What is wrong at several peers at once does not hang on which of its numbers is wrong.
func TestP3EachFaultIsTheFirstPeers(t *testing.T) {
	for _, n := range []number{
		{"AS", func(c *api.Config, i int) { c.Peers[i].AS = 65536 }, 0},
		{"Hold", func(c *api.Config, i int) { c.Peers[i].Hold = 2 }, 0},
		{"Limit", func(c *api.Config, i int) { c.Peers[i].Limit = -1 }, 0},
		{"Pref", func(c *api.Config, i int) { c.Peers[i].Pref = 1<<31 + 1 }, 0},
		{"Wait", func(c *api.Config, i int) { c.Peers[i].Wait = 1001 }, 0},
		{"Import", func(c *api.Config, i int) { c.Peers[i].Import = []api.Rule{{Ge: 1}} }, 0},
		{"Export", func(c *api.Config, i int) { c.Peers[i].Export = []api.Rule{{Ge: 1}} }, 0},
	} {
		for i := range 3 {
			c := ordinary()
			for j := i; j < 3; j++ {
				n.set(&c, j)
			}
			if got, want := Check(c), (api.Fault{Code: api.ErrConfig, Peer: i + 1}); got != want {
				t.Errorf("P3: %s from peer %d on: %+v, want %+v", n.name, i, got, want)
			}
		}
	}
}

func TestP2CopySharesNothing(t *testing.T) {
	c := ordinary()
	kept := Copy(c)
	if !reflect.DeepEqual(kept, c) {
		t.Fatalf("P2: the copy of %+v is %+v", c, kept)
	}
	scribble(c)
	if want := ordinary(); !reflect.DeepEqual(kept, want) {
		t.Errorf("P2: the copy was changed from without: %+v, want %+v", kept, want)
	}
	c = ordinary()
	scribble(Copy(c))
	if want := ordinary(); !reflect.DeepEqual(c, want) {
		t.Errorf("P2: what was copied was changed through the copy: %+v, want %+v", c, want)
	}
}

// A list without elements may have spare room, which is the caller's.
func TestP2CopyOfListsWithoutElements(t *testing.T) {
	room := make([]api.Rule, 3)
	c := api.Config{Peers: append(make([]api.Peer, 0, 3), api.Peer{Import: room[:0], Export: room[:0:2]})}
	kept := Copy(c)
	if p := kept.Peers[0]; cap(p.Import) != 0 || cap(p.Export) != 0 {
		t.Errorf("P2: the copies of lists without elements have room for %d and %d rules", cap(p.Import), cap(p.Export))
	}
	c.Peers = c.Peers[:0]
	if kept = Copy(c); cap(kept.Peers) != 0 {
		t.Errorf("P2: the copy of no peers has room for %d", cap(kept.Peers))
	}
}

// scribble writes over everything that c's lists hold.
func scribble(c api.Config) {
	for i := range c.Peers {
		for _, rules := range [][]api.Rule{c.Peers[i].Import, c.Peers[i].Export} {
			for j := range rules {
				rules[j] = api.Rule{Addr: 3, Len: -5, Ge: 99, Le: -99}
			}
		}
		c.Peers[i] = api.Peer{AS: -1}
	}
}
