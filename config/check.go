// Package config says whether a configuration may be, and copies one.
package config

import (
	"slices"

	"waypost/api"
)

const (
	minHold   = 3  // of a hold time that is not 0
	maxLength = 32 // of a prefix
)

// Check tells why a configuration may not be. The fault is zero if it may.
func Check(c api.Config) api.Fault {
	if !speakerMayBe(c) {
		return api.Fault{Code: api.ErrConfig}
	}
	for i, p := range c.Peers {
		if !peerMayBe(p) {
			return api.Fault{Code: api.ErrConfig, Peer: i + 1}
		}
	}
	return api.Fault{}
}

func speakerMayBe(c api.Config) bool {
	return asMayBe(c.AS) && c.ID != 0 && len(c.Peers) <= api.MaxPeers
}

func peerMayBe(p api.Peer) bool {
	return asMayBe(p.AS) &&
		holdMayBe(p.Hold) &&
		p.Limit >= 0 &&
		between(p.Pref, 0, api.MaxPref) &&
		between(p.Wait, 0, api.MaxWait) &&
		filterMayBe(p.Import) &&
		filterMayBe(p.Export)
}

func asMayBe(as int) bool {
	return between(as, 1, api.MaxAS)
}

func holdMayBe(hold int) bool {
	return hold == 0 || between(hold, minHold, api.MaxHold)
}

func filterMayBe(rules []api.Rule) bool {
	return len(rules) <= api.MaxRules && !slices.ContainsFunc(rules, func(r api.Rule) bool { return !ruleMayBe(r) })
}

// The length is looked at first: a shift by a number below 0 would panic.
func ruleMayBe(r api.Rule) bool {
	return between(r.Len, 0, maxLength) &&
		r.Addr<<r.Len == 0 &&
		between(r.Ge, r.Len, r.Le) &&
		r.Le <= maxLength
}

func between(n, low, high int) bool {
	return low <= n && n <= high
}
