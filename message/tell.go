package message

import (
	"strings"

	"waypost/api"
	"waypost/route"
)

const (
	room     = api.MaxMessage - leastUpdate // bytes of an Update for prefixes and attributes
	maxShort = 255                          // bytes of a value that is not long
)

// Attributes are those of a route as they are sent to a peer, internal or external: only an internal one is told how well it is liked.
func Attributes(r route.Route, internal bool) string {
	all := writeAttribute(transitive, api.Origin, string([]byte{byte(r.Origin)})) +
		writeAttribute(transitive, api.Path, string(r.Path)) +
		writeAttribute(transitive, api.NextHop, four(r.NextHop))
	if r.Metric >= 0 {
		all += writeAttribute(optional, api.Metric, four(uint32(r.Metric)))
	}
	if internal {
		all += writeAttribute(transitive, api.LocalPref, four(uint32(r.Pref)))
	}
	return all
}

func writeAttribute(flags, kind byte, value string) string {
	size := string([]byte{byte(len(value))})
	if len(value) > maxShort {
		flags, size = flags|long, two(len(value))
	}
	return string([]byte{flags, kind}) + size + value
}

// Fits says whether an Update has room for a prefix with these attributes.
func Fits(attributes string, p route.Prefix) bool {
	return len(attributes)+prefixSize(p.Len) <= room
}

// Withdraw is the Updates that withdraw prefixes, with as many in each as there is room for.
func Withdraw(prefixes []route.Prefix) string {
	var all strings.Builder
	for _, list := range writeLists(prefixes, room) {
		all.WriteString(update(list, "", ""))
	}
	return all.String()
}

// Announce is the Updates that announce prefixes with these attributes, with as many in each as there is room for. Each of them must fit.
func Announce(attributes string, prefixes []route.Prefix) string {
	var all strings.Builder
	for _, list := range writeLists(prefixes, room-len(attributes)) {
		all.WriteString(update("", attributes, list))
	}
	return all.String()
}

func update(withdrawn, attributes, announced string) string {
	return assemble(api.Update, two(len(withdrawn))+withdrawn+two(len(attributes))+attributes+announced)
}

// writeLists writes prefixes into lists, with as many in each as go into so many bytes.
func writeLists(prefixes []route.Prefix, size int) []string {
	var all []string
	var list []byte
	for _, p := range prefixes {
		next := writePrefix(p)
		if len(list)+len(next) > size {
			all = append(all, string(list))
			list = list[:0]
		}
		list = append(list, next...)
	}
	if len(list) > 0 {
		all = append(all, string(list))
	}
	return all
}

func writePrefix(p route.Prefix) string {
	return string([]byte{byte(p.Len)}) + four(p.Addr)[:prefixSize(p.Len)-1]
}
