package message

import "waypost/route"

const countSize = 2 // bytes of the number ahead of a list

// Update is what an Update tells: the prefixes that are withdrawn, and those that are announced, with the route to them. The route's Pref is the LocalPref, 0 if there is none.
type Update struct {
	Withdrawn, Announced []route.Prefix
	Route                route.Route
}

// ReadUpdate reads the body of an Update. It panics with a Notification if a peer, internal or external, may not send it.
func ReadUpdate(body string, internal bool) Update {
	withdrawn, rest := cutList(body)
	list, announced := cutList(rest)
	attributes := cutAttributes(list)

	var u Update
	u.Withdrawn = readPrefixes(withdrawn)
	u.Route = readAttributes(attributes)
	if announced != "" {
		checkMissing(attributes, internal)
	}
	u.Announced = readPrefixes(announced)
	return u
}

// cutList takes a list off the front of bytes, where its number of bytes stands ahead of it.
func cutList(bytes string) (list, rest string) {
	if len(bytes) < countSize {
		Refuse(codeUpdate, subList, "")
	}
	end := countSize + int(number(bytes[:countSize]))
	if end > len(bytes) {
		Refuse(codeUpdate, subList, "")
	}
	return bytes[countSize:end], bytes[end:]
}

func readPrefixes(bytes string) []route.Prefix {
	var all []route.Prefix
	for bytes != "" {
		n := int(bytes[0])
		end := prefixSize(n)
		if n > route.MaxLength || end > len(bytes) {
			Refuse(codeUpdate, subPrefix, "")
		}
		all = append(all, route.PrefixOf(address(bytes[1:end]), n))
		bytes = bytes[end:]
	}
	return all
}

// prefixSize is how many bytes a prefix of n bits has, as it is written.
func prefixSize(n int) int {
	return 1 + (n+7)/8
}

// address is the one that begins with bytes, four at most.
func address(bytes string) uint32 {
	return number((bytes + "\x00\x00\x00\x00")[:4])
}
