package message

import (
	"math"
	"slices"
	"strings"

	"waypost/api"
	"waypost/route"
)

// The flags of attributes that are of matter.
const (
	optional   = 128
	transitive = 64
	long       = 16
)

const maxOrigin = 2

// attribute is one as it came: whole is all of it.
type attribute struct {
	flags, kind byte
	value       string
	whole       string
}

// demand is what an attribute of a type must be.
type demand struct {
	kind      byte
	flags     byte // which of optional and transitive it has
	sizeMayBe func(n int) bool
	read      func(a attribute, to *route.Route) // looks at the value, and takes it in
	needed    func(internal bool) bool           // whether a peer must tell it of what it announces
}

// demands are those of all types that are known, in the order of the types.
func demands() []demand {
	return []demand{
		{api.Origin, transitive, exactly(1), readOrigin, always},
		{api.Path, transitive, anySize, readPath, always},
		{api.NextHop, transitive, exactly(4), readNextHop, always},
		{api.Metric, optional, exactly(4), readMetric, never},
		{api.LocalPref, transitive, exactly(4), readLocalPref, ofInternal},
	}
}

func exactly(size int) func(int) bool {
	return func(n int) bool { return n == size }
}

func anySize(int) bool { return true }

func always(bool) bool { return true }

func never(bool) bool { return false }

func ofInternal(internal bool) bool { return internal }

func readOrigin(a attribute, to *route.Route) {
	to.Origin = int(a.value[0])
	if to.Origin > maxOrigin {
		Refuse(codeUpdate, subOrigin, a.whole)
	}
}

// The path is copied, so that what is kept of it does not keep the whole message.
func readPath(a attribute, to *route.Route) {
	to.Path = route.Path(strings.Clone(a.value))
	if !to.Path.MayBe() {
		Refuse(codeUpdate, subPath, "")
	}
}

func readNextHop(a attribute, to *route.Route) {
	to.NextHop = number(a.value)
	if to.NextHop == 0 || to.NextHop == math.MaxUint32 {
		Refuse(codeUpdate, subNextHop, a.whole)
	}
}

func readMetric(a attribute, to *route.Route) {
	to.Metric = int64(number(a.value))
}

func readLocalPref(a attribute, to *route.Route) {
	to.Pref = int(number(a.value))
}

// check looks at an attribute of the demand's type, and takes it in.
func (d demand) check(a attribute, to *route.Route) {
	if a.flags&(optional|transitive) != d.flags {
		Refuse(codeUpdate, subFlags, a.whole)
	}
	if !d.sizeMayBe(len(a.value)) {
		Refuse(codeUpdate, subSize, a.whole)
	}
	d.read(a, to)
}

// readAttributes looks at attributes one by one, and takes in those that are known.
func readAttributes(list []attribute) route.Route {
	known := demands()
	to := route.Route{Metric: route.NoMetric}
	for _, a := range list {
		at := slices.IndexFunc(known, func(d demand) bool { return d.kind == a.kind })
		if at >= 0 {
			known[at].check(a, &to)
		} else if a.flags&optional == 0 {
			Refuse(codeUpdate, subUnknown, a.whole)
		}
	}
	return to
}

// checkMissing gives up an Update that announces prefixes, but not all that must be told of them.
func checkMissing(list []attribute, internal bool) {
	for _, d := range demands() {
		if d.needed(internal) && !has(list, d.kind) {
			Refuse(codeUpdate, subMissing, string([]byte{d.kind}))
		}
	}
}

func has(list []attribute, kind byte) bool {
	return slices.ContainsFunc(list, func(a attribute) bool { return a.kind == kind })
}

// cutAttributes cuts bytes into attributes, of each type one at most.
func cutAttributes(bytes string) []attribute {
	var list []attribute
	for bytes != "" {
		a, rest := cutAttribute(bytes)
		if has(list, a.kind) {
			Refuse(codeUpdate, subList, "")
		}
		list = append(list, a)
		bytes = rest
	}
	return list
}

// cutAttribute takes the first attribute off bytes, of which there is one at least.
func cutAttribute(bytes string) (a attribute, rest string) {
	const sizeAt = 2
	valueAt := sizeAt + 1
	if bytes[0]&long != 0 {
		valueAt++
	}
	if len(bytes) < valueAt {
		Refuse(codeUpdate, subList, "")
	}
	end := valueAt + int(number(bytes[sizeAt:valueAt]))
	if len(bytes) < end {
		Refuse(codeUpdate, subList, "")
	}
	return attribute{bytes[0], bytes[1], bytes[valueAt:end], bytes[:end]}, bytes[end:]
}
