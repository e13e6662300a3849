package config

import "waypost/api"

// Copy makes a configuration that shares no list with c.
func Copy(c api.Config) api.Config {
	c.Peers = copyList(c.Peers)
	for i := range c.Peers {
		p := &c.Peers[i]
		p.Import = copyList(p.Import)
		p.Export = copyList(p.Export)
	}
	return c
}

// slices.Clone would do but for a list without elements: its copy still points
// into the memory of the one handed in.
func copyList[T any](list []T) []T {
	return append([]T(nil), list...)
}
