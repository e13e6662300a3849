package route

import "math"

// NoMetric is the Metric of a route without one.
const NoMetric = -1

// Route is what a peer told of a prefix.
type Route struct {
	Pref    int // how well it is liked
	Origin  int
	Path    Path
	NextHop uint32
	Metric  int64 // below 0: none
}

// Offer is a route that may be chosen, and the peer that told it.
type Offer struct {
	Route
	Peer     int // counted from 0
	External bool
	ID       uint32 // the peer's number
}

// Best is the best of some offers, at least one, that stand in the order of their peers.
func Best(offers []Offer) Offer {
	left := least(offers, func(o Offer) int { return -o.Pref })
	left = least(left, func(o Offer) int { return o.Path.Length() })
	left = least(left, func(o Offer) int { return o.Origin })
	left = leastMetric(left)
	left = least(left, func(o Offer) int { return rank(o.External) })
	left = least(left, func(o Offer) int { return int(o.ID) })
	return left[0]
}

// least is those of the offers of which the measure is the lowest.
func least(offers []Offer, measure func(Offer) int) []Offer {
	var left []Offer
	lowest := math.MaxInt
	for _, o := range offers {
		n := measure(o)
		if n < lowest {
			left, lowest = nil, n
		}
		if n == lowest {
			left = append(left, o)
		}
	}
	return left
}

// leastMetric is those for which no other one of the same neighbour has a lower metric: of different ones metrics say nothing to each other.
func leastMetric(offers []Offer) []Offer {
	lowest := map[int]int64{}
	for _, o := range offers {
		next := o.Path.Neighbour()
		if n, ok := lowest[next]; !ok || o.weight() < n {
			lowest[next] = o.weight()
		}
	}
	var left []Offer
	for _, o := range offers {
		if o.weight() == lowest[o.Path.Neighbour()] {
			left = append(left, o)
		}
	}
	return left
}

// weight is the metric, or 0 if there is none.
func (r Route) weight() int64 {
	return max(r.Metric, 0)
}

// rank sets external peers ahead of internal ones.
func rank(external bool) int {
	if external {
		return 0
	}
	return 1
}
