package route

import (
	"math"
	"math/rand"
	"slices"
	"strings"
	"testing"

	"waypost/api"
)

const ten = 10 << 24

func TestP4BitsBehindTheLength(t *testing.T) {
	for n := range 33 {
		addr := uint32(math.MaxUint32)
		for i := range 32 {
			if i >= n {
				addr &^= 1 << (31 - i)
			}
		}
		if got, want := PrefixOf(math.MaxUint32, n), (Prefix{addr, n}); got != want {
			t.Errorf("P4: %d bits: %+v, want %+v", n, got, want)
		}
		if got, want := PrefixOf(0, n), (Prefix{0, n}); got != want {
			t.Errorf("P4: %d bits of 0: %+v, want %+v", n, got, want)
		}
	}
}

// The order is by the address, without a sign, then by the length.
func TestP10OrderOfPrefixes(t *testing.T) {
	order := []Prefix{{0, 0}, {0, 1}, {0, 32}, {1, 32}, {ten, 7}, {ten, 8}, {ten, 32}, {ten + 1, 32}, {ten + 1<<23, 9}, {1 << 31, 1}, {1 << 31, 2}, {math.MaxUint32, 32}}
	for i, p := range order {
		for j, q := range order {
			if got := p.Compare(q); got < 0 != (i < j) || got > 0 != (i > j) {
				t.Errorf("P10: %+v against %+v: %d", p, q, got)
			}
		}
	}
}

func TestP4RulesThatMeet(t *testing.T) {
	for _, c := range []struct {
		name string
		rule api.Rule
		p    Prefix
		want bool
	}{
		{"all, the shortest", api.Rule{Le: 32}, Prefix{0, 0}, true},
		{"all, the longest", api.Rule{Le: 32}, Prefix{math.MaxUint32, 32}, true},
		{"the length 0 alone", api.Rule{}, Prefix{0, 0}, true},
		{"the length 0 alone", api.Rule{}, Prefix{0, 1}, false},
		{"its own", api.Rule{Addr: ten, Len: 8, Ge: 8, Le: 8}, Prefix{ten, 8}, true},
		{"a bit longer", api.Rule{Addr: ten, Len: 8, Ge: 8, Le: 8}, Prefix{ten, 9}, false},
		{"a bit longer", api.Rule{Addr: ten, Len: 8, Ge: 8, Le: 9}, Prefix{ten, 9}, true},
		{"a bit shorter", api.Rule{Addr: ten, Len: 8, Ge: 8, Le: 32}, Prefix{ten, 7}, false},
		{"at Ge", api.Rule{Addr: ten, Len: 8, Ge: 10, Le: 12}, Prefix{ten + 1<<22, 10}, true},
		{"below Ge", api.Rule{Addr: ten, Len: 8, Ge: 10, Le: 12}, Prefix{ten, 9}, false},
		{"at Le", api.Rule{Addr: ten, Len: 8, Ge: 10, Le: 12}, Prefix{ten, 12}, true},
		{"above Le", api.Rule{Addr: ten, Len: 8, Ge: 10, Le: 12}, Prefix{ten, 13}, false},
		{"another first bit", api.Rule{Addr: ten, Len: 8, Ge: 8, Le: 32}, Prefix{ten + 1<<31, 8}, false},
		{"another last bit of Len", api.Rule{Addr: ten, Len: 8, Ge: 8, Le: 32}, Prefix{ten + 1<<24, 8}, false},
		{"a bit behind Len", api.Rule{Addr: ten, Len: 8, Ge: 8, Le: 32}, Prefix{ten + 1<<23, 9}, true},
		{"32 bits", api.Rule{Addr: 5, Len: 32, Ge: 32, Le: 32}, Prefix{5, 32}, true},
		{"32 bits, the last another", api.Rule{Addr: 5, Len: 32, Ge: 32, Le: 32}, Prefix{4, 32}, false},
	} {
		for _, permit := range []bool{true, false} {
			c.rule.Permit = permit
			if got, want := c.p.Passes([]api.Rule{c.rule}), c.want && permit; got != want {
				t.Errorf("P4: %s: %+v passes %+v: %v, want %v", c.name, c.p, c.rule, got, want)
			}
		}
	}
}

// The first rule that meets it says whether a prefix passes; without one it does not.
func TestP4TheFirstRuleThatMeets(t *testing.T) {
	no, yes, other := api.Rule{Le: 32}, api.Rule{Permit: true, Le: 32}, api.Rule{Permit: true, Addr: 11 << 24, Len: 8, Ge: 8, Le: 32}
	for _, c := range []struct {
		filter []api.Rule
		want   bool
	}{
		{nil, false}, {[]api.Rule{}, false}, {[]api.Rule{other}, false}, {[]api.Rule{other, other, yes}, true},
		{[]api.Rule{no, yes}, false}, {[]api.Rule{yes, no}, true}, {[]api.Rule{other, no, yes}, false}, {[]api.Rule{other, yes, no}, true},
	} {
		if got := (Prefix{ten, 8}).Passes(c.filter); got != c.want {
			t.Errorf("P4: the filter %+v: %v, want %v", c.filter, got, c.want)
		}
	}
}

// part is a segment as it is sent.
func part(kind byte, list ...int) string {
	s := string([]byte{kind, byte(len(list))})
	for _, as := range list {
		s += string([]byte{byte(as >> 8), byte(as)})
	}
	return s
}

func run(n, as int) []int { return slices.Repeat([]int{as}, n) }

func TestP4Paths(t *testing.T) {
	for _, c := range []struct {
		name, path        string
		length, neighbour int
		has, hasNot       []int
	}{
		{"none", "", 0, 0, nil, []int{0, 1}},
		{"one AS", part(2, 65001), 1, 65001, []int{65001}, []int{0, 1, 253, 233, 513, 59901}},
		{"the same twice", part(2, 9, 9), 2, 9, []int{9}, []int{2}},
		{"a set", part(1, 5, 6, 7), 1, 0, []int{5, 6, 7}, []int{0, 3, 8}},
		{"a sequence and a set", part(2, 1, 2) + part(1, 5, 6, 7), 3, 1, []int{1, 2, 5, 7}, []int{3, 258, 512}},
		{"a set and a sequence", part(1, 5, 6) + part(2, 1, 2, 3), 4, 0, []int{5, 6, 1, 2, 3}, []int{4}},
		{"two of each", part(2, 1) + part(2, 2) + part(1, 3) + part(1, 4, 5), 4, 1, []int{1, 2, 3, 4, 5}, []int{6, 257}},
		{"the AS 0 first", part(2, 0, 4), 2, 0, []int{0, 4}, []int{1}},
		{"the greatest AS", part(2, 65535), 1, 65535, []int{65535}, []int{255}},
		{"255 ASes", part(2, run(255, 258)...), 255, 258, []int{258}, []int{1, 2, 513}},
		{"a set of 255, and 255", part(1, run(255, 3)...) + part(2, run(255, 4)...), 256, 0, []int{3, 4}, []int{772, 1027}},
	} {
		p := Path(c.path)
		if !p.MayBe() {
			t.Errorf("P4: the path %s may not be", c.name)
		}
		if p.Length() != c.length || p.Neighbour() != c.neighbour {
			t.Errorf("P4: the path %s: length %d, neighbour %d, want %d, %d", c.name, p.Length(), p.Neighbour(), c.length, c.neighbour)
		}
		for _, as := range c.has {
			if !p.Has(as) {
				t.Errorf("P4: the path %s has not %d", c.name, as)
			}
		}
		for _, as := range c.hasNot {
			if p.Has(as) {
				t.Errorf("P4: the path %s has %d", c.name, as)
			}
		}
	}
}

func TestP4PathsThatMayNotBe(t *testing.T) {
	good := part(2, 1, 2) + part(1, 3)
	for _, wrong := range []string{
		"\x02", "\x01", "\x00", "\x02\x00", "\x01\x00", "\x00\x00", "\x00\x01\x00\x01", "\x03\x01\x00\x01", "\xff\x01\x00\x01", "\x82\x01\x00\x01",
		"\x02\x01", "\x02\x01\x00", "\x02\x02\x00\x01", "\x02\x02\x00\x01\x00", "\x01\xff" + strings.Repeat("x", 509), "\x02\x01\x00\x01\x00",
	} {
		for _, p := range []string{wrong, good + wrong, part(1, run(255, 9)...) + wrong} {
			if Path(p).MayBe() {
				t.Errorf("P4: the path %x may be", p)
			}
		}
	}
	for n := range len(good) {
		if want := n == 0 || n == 6; Path(good[:n]).MayBe() != want {
			t.Errorf("P4: %d bytes of the path: may be %v, want %v", n, !want, want)
		}
	}
}

func TestP6ASAheadOfAPath(t *testing.T) {
	for _, c := range []struct{ name, path, want string }{
		{"none", "", part(2, 258)},
		{"a sequence", part(2, 5), part(2, 258, 5)},
		{"the same AS", part(2, 258), part(2, 258, 258)},
		{"two sequences", part(2, 5) + part(2, 6, 7), part(2, 258, 5) + part(2, 6, 7)},
		{"a set", part(1, 5), part(2, 258) + part(1, 5)},
		{"a set and a sequence", part(1, 5) + part(2, 6), part(2, 258) + part(1, 5) + part(2, 6)},
		{"254", part(2, run(254, 9)...), part(2, append([]int{258}, run(254, 9)...)...)},
		{"255", part(2, run(255, 9)...), part(2, 258) + part(2, run(255, 9)...)},
		{"255 in a set", part(1, run(255, 9)...), part(2, 258) + part(1, run(255, 9)...)},
	} {
		if got := Path(c.path).Ahead(258); string(got) != c.want {
			t.Errorf("P6: an AS ahead of %s: %x, want %x", c.name, got, c.want)
		}
	}
	for _, as := range []int{1, 255, 256, 65535} {
		if got := Path(part(2, 5)).Ahead(as); got.Neighbour() != as || got.Length() != 2 {
			t.Errorf("P6: the AS %d ahead: %x", as, got)
		}
	}
}

// offers are of external peers with the numbers 9, 8, .., all alike but for what each f does.
func offers(fs ...func(o *Offer)) []Offer {
	var list []Offer
	for i, f := range fs {
		o := Offer{Route: Route{Pref: 100, Origin: 1, Path: Path(part(2, 7, 8)), NextHop: 1, Metric: NoMetric}, Peer: i, External: true, ID: uint32(9 - i)}
		f(&o)
		list = append(list, o)
	}
	return list
}

func plain(*Offer)                {}
func pref(n int) func(*Offer)     { return func(o *Offer) { o.Pref = n } }
func origin(n int) func(*Offer)   { return func(o *Offer) { o.Origin = n } }
func path(p string) func(*Offer)  { return func(o *Offer) { o.Path = Path(p) } }
func metric(n int64) func(*Offer) { return func(o *Offer) { o.Metric = n } }
func id(n uint32) func(*Offer)    { return func(o *Offer) { o.ID = n } }
func internal(o *Offer)           { o.External = false }
func all(fs ...func(*Offer)) func(*Offer) {
	return func(o *Offer) {
		for _, f := range fs {
			f(o)
		}
	}
}

func TestP4Best(t *testing.T) {
	far := strings.Repeat(part(2, 7, 8), 9)
	for _, c := range []struct {
		name string
		list []Offer
		want int
	}{
		{"one", offers(plain), 0},
		{"liked best, against all else", offers(all(pref(101), path(far), origin(2), metric(9), internal), all(plain, id(1))), 0},
		{"liked best, the greatest", offers(pref(math.MaxUint32), pref(math.MaxUint32-1), pref(api.MaxPref)), 0},
		{"not liked at all", offers(pref(1), pref(0)), 0},
		{"the path, against all behind", offers(all(path(part(2, 7)), origin(2), metric(9), internal), all(origin(0), metric(0), id(1))), 0},
		{"the path, though not liked as well", offers(all(pref(99), path("")), plain), 1},
		{"a set is one", offers(path(part(2, 7)+part(1, 8, 9)), path(part(2, 7, 8, 9))), 0},
		{"the origin, against all behind", offers(all(origin(0), metric(9), internal), all(metric(0), id(1))), 0},
		{"the lower origin", offers(origin(2), origin(0), origin(1)), 1},
		{"the metric, against all behind", offers(all(metric(1), internal), all(metric(2), id(1))), 0},
		{"the greatest metric", offers(metric(math.MaxUint32-1), metric(math.MaxUint32)), 0},
		{"no metric is 0", offers(plain, metric(1)), 0},
		{"no metric is no less than 0", offers(metric(NoMetric), metric(0)), 1},
		{"another neighbour", offers(metric(1), all(metric(2), path(part(2, 8, 7)))), 1},
		{"another neighbour behind the same AS", offers(metric(1), all(metric(2), path(part(2, 7, 9)))), 0},
		{"sets have the same, none", offers(all(metric(1), path(part(1, 3)+part(2, 4))), all(metric(2), path(part(1, 5)+part(2, 6)))), 0},
		{"external", offers(all(plain, id(10)), all(internal, id(1))), 0},
		{"internal ones alone", offers(internal, internal), 1},
		{"the lowest number", offers(id(3), id(1<<31), id(2), id(math.MaxUint32)), 2},
		{"the first peer", offers(id(3), id(2), id(2), id(2)), 1},
		// The second is out by its metric, and yet keeps nobody of its own neighbour; the third is out by it too.
		{"metrics of two neighbours", offers(all(metric(1), id(9)), all(metric(2), id(1)), all(metric(3), id(1)), all(metric(9), path(part(2, 8, 7)), id(8))), 3},
		// A lower metric that is out by its origin keeps nobody down.
		{"a metric that is out", offers(all(metric(1), origin(2)), all(metric(2), id(1)), id(2), metric(5)), 2},
	} {
		if got := Best(c.list); got != c.list[c.want] {
			t.Errorf("P4: %s: %+v, want %+v", c.name, got, c.list[c.want])
		}
	}
}

// stays is those of the list that no other beats.
func stays(list []Offer, beats func(a, b Offer) bool) []Offer {
	return slices.DeleteFunc(slices.Clone(list), func(b Offer) bool {
		return slices.ContainsFunc(list, func(a Offer) bool { return beats(a, b) })
	})
}

// plainBest is the document's list, word by word.
func plainBest(list []Offer) Offer {
	weight := func(o Offer) int64 { return max(o.Metric, 0) }
	list = stays(list, func(a, b Offer) bool { return a.Pref > b.Pref })
	list = stays(list, func(a, b Offer) bool { return a.Path.Length() < b.Path.Length() })
	list = stays(list, func(a, b Offer) bool { return a.Origin < b.Origin })
	list = stays(list, func(a, b Offer) bool { return a.Path.Neighbour() == b.Path.Neighbour() && weight(a) < weight(b) })
	list = stays(list, func(a, b Offer) bool { return a.External && !b.External })
	list = stays(list, func(a, b Offer) bool { return a.ID < b.ID })
	list = stays(list, func(a, b Offer) bool { return a.Peer < b.Peer })
	return list[0]
}

func TestP4BestOfMany(t *testing.T) {
	random := rand.New(rand.NewSource(1))
	paths := []string{"", part(2, 1), part(2, 2), part(1, 1, 2), part(1, 3), part(2, 1, 2), part(2, 2, 1), part(1, 9) + part(2, 1)}
	for range 50000 {
		var list []Offer
		for i := range 1 + random.Intn(8) {
			list = append(list, Offer{
				Route: Route{Pref: random.Intn(2), Origin: random.Intn(2), Path: Path(paths[random.Intn(len(paths))]), Metric: int64(random.Intn(4) - 1)},
				Peer:  i, External: random.Intn(2) > 0, ID: uint32(random.Intn(3)),
			})
		}
		before := slices.Clone(list)
		if got, want := Best(list), plainBest(list); got != want {
			t.Fatalf("P4: of %+v: %+v, want %+v", list, got, want)
		}
		if !slices.Equal(list, before) {
			t.Fatalf("P2: Best wrote into the offers")
		}
	}
}
