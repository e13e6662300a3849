// Package route has prefixes, the routes to them, and which route is the best of several.
package route

import (
	"cmp"

	"waypost/api"
)

// MaxLength is that of a prefix of one address.
const MaxLength = 32

// Prefix is of addresses whose first Len bits are Addr's. The bits behind them are 0.
type Prefix struct {
	Addr uint32
	Len  int
}

// PrefixOf is the prefix of the first n bits of an address. The bits behind them are of no matter.
func PrefixOf(addr uint32, n int) Prefix {
	return Prefix{firstBits(addr, n), n}
}

// Compare orders prefixes by the address, of one address by the length.
func (p Prefix) Compare(other Prefix) int {
	return cmp.Or(cmp.Compare(p.Addr, other.Addr), cmp.Compare(p.Len, other.Len))
}

// Passes says whether a filter lets the prefix pass.
func (p Prefix) Passes(filter []api.Rule) bool {
	for _, rule := range filter {
		if p.isMetBy(rule) {
			return rule.Permit
		}
	}
	return false
}

func (p Prefix) isMetBy(rule api.Rule) bool {
	return rule.Ge <= p.Len && p.Len <= rule.Le && firstBits(p.Addr, rule.Len) == rule.Addr
}

func firstBits(addr uint32, n int) uint32 {
	return addr &^ (^uint32(0) >> n)
}
