package route

import "iter"

// The types of segments.
const (
	set      = 1
	sequence = 2
)

const (
	segmentHead = 2   // bytes: the type, how many ASes
	mostASes    = 255 // of a segment
)

// Path is the way that a route goes: segments one behind the other, as they are sent.
type Path string

// segment is a part of a path: its type, and its ASes as they are sent.
type segment struct {
	kind byte
	list string
}

// cut takes the first segment off the path. Nothing is whole if no segment stands there.
func (p Path) cut() (first segment, rest Path, whole bool) {
	if len(p) < segmentHead {
		return segment{}, p, false
	}
	kind, count := p[0], int(p[1])
	end := segmentHead + 2*count
	if kind != set && kind != sequence || count == 0 || end > len(p) {
		return segment{}, p, false
	}
	return segment{kind, string(p[segmentHead:end])}, p[end:], true
}

// MayBe says whether the path is segments, and nothing else.
func (p Path) MayBe() bool {
	for p != "" {
		_, rest, whole := p.cut()
		if !whole {
			return false
		}
		p = rest
	}
	return true
}

// segments goes through those of a path that may be.
func (p Path) segments() iter.Seq[segment] {
	return func(yield func(segment) bool) {
		for {
			first, rest, whole := p.cut()
			if !whole || !yield(first) {
				return
			}
			p = rest
		}
	}
}

// Length is how many ASes the sequences have, and one for each set.
func (p Path) Length() int {
	n := 0
	for s := range p.segments() {
		if s.kind == set {
			n++
		} else {
			n += s.count()
		}
	}
	return n
}

// Neighbour is the first AS, if the path begins with a sequence; else 0.
func (p Path) Neighbour() int {
	first, _, whole := p.cut()
	if !whole || first.kind != sequence {
		return 0
	}
	return first.as(0)
}

// Has says whether an AS stands anywhere in the path.
func (p Path) Has(as int) bool {
	for s := range p.segments() {
		for i := range s.count() {
			if s.as(i) == as {
				return true
			}
		}
	}
	return false
}

// Ahead is the path with an AS ahead of it: in the first segment, if that is a sequence with room, else in one of its own.
func (p Path) Ahead(as int) Path {
	own := segment{sequence, string([]byte{byte(as >> 8), byte(as)})}
	first, rest, whole := p.cut()
	if whole && first.kind == sequence && first.count() < mostASes {
		own.list += first.list
		p = rest
	}
	return own.path() + p
}

// path is the one of the segment alone.
func (s segment) path() Path {
	return Path([]byte{s.kind, byte(s.count())}) + Path(s.list)
}

func (s segment) count() int {
	return len(s.list) / 2
}

func (s segment) as(i int) int {
	return int(s.list[2*i])<<8 | int(s.list[2*i+1])
}
