package config

import (
	"slices"

	"waypost/api"
)

// Copy makes a configuration that shares no list with c.
func Copy(c api.Config) api.Config {
	c.Peers = slices.Clone(c.Peers)
	for i := range c.Peers {
		p := &c.Peers[i]
		p.Import = slices.Clone(p.Import)
		p.Export = slices.Clone(p.Export)
	}
	return c
}
