package message

import (
	"math"
	"strings"
	"testing"

	"waypost/api"
	"waypost/route"
)

func TestP4AttributesAsTheyAreSent(t *testing.T) {
	plain := route.Route{Pref: 100, Path: "\x02\x01\xfd\xe9", NextHop: 0x0a000001, Metric: route.NoMetric}
	with := func(change func(r *route.Route)) route.Route {
		r := plain
		change(&r)
		return r
	}
	for _, c := range []struct {
		name     string
		r        route.Route
		internal bool
		want     string
	}{
		{"external", plain, false, needed},
		{"internal", plain, true, needed + liked},
		{"a metric", with(func(r *route.Route) { r.Metric = 0x01020304 }), true, needed + med + liked},
		{"the metric 0", with(func(r *route.Route) { r.Metric = 0 }), true, needed + attr(128, 4, "\x00\x00\x00\x00") + liked},
		{"the greatest metric", with(func(r *route.Route) { r.Metric = math.MaxUint32 }), true, needed + attr(128, 4, "\xff\xff\xff\xff") + liked},
		{"liked best", with(func(r *route.Route) { r.Pref = api.MaxPref }), true, needed + attr(64, 5, "\x80\x00\x00\x00")},
		{"not liked", with(func(r *route.Route) { r.Pref = 0 }), true, needed + attr(64, 5, "\x00\x00\x00\x00")},
		{"origin 2", with(func(r *route.Route) { r.Origin = 2 }), false, attr(64, 1, "\x02") + way + hop},
		{"no path", with(func(r *route.Route) { r.Path = "" }), false, igp + attr(64, 2, "") + hop},
		{"the greatest next hop", with(func(r *route.Route) { r.NextHop = math.MaxUint32 }), false, igp + way + attr(64, 3, "\xff\xff\xff\xff")},
		{"255 bytes", with(func(r *route.Route) { r.Path = route.Path(strings.Repeat("x", 255)) }), false, igp + attr(64, 2, strings.Repeat("x", 255)) + hop},
		{"256 bytes", with(func(r *route.Route) { r.Path = route.Path(strings.Repeat("x", 256)) }), false, igp + attr(80, 2, strings.Repeat("x", 256)) + hop},
	} {
		if got := Attributes(c.r, c.internal); got != c.want {
			t.Errorf("P4: the attributes %s: %x, want %x", c.name, got, c.want)
		}
	}
}

// What is sent can be read again: each prefix as it was.
func TestP5UpdatesThatAreSent(t *testing.T) {
	var all []route.Prefix
	for i := range 2500 {
		all = append(all, route.PrefixOf(uint32(i)*0x9e3779b1, i%33))
	}
	attributes := needed + liked
	for n := 1; n <= len(all); n += 1 + n/3 {
		checkSent(t, Withdraw(all[:n]), all[:n], "")
		checkSent(t, Announce(attributes, all[:n]), all[:n], attributes)
	}
	if got := Withdraw(nil) + Announce(attributes, nil); got != "" {
		t.Errorf("P5: Updates of no prefixes: %x", got)
	}
}

// checkSent fails the test if Updates are not whole, not full, or not of these prefixes.
func checkSent(t *testing.T, data string, prefixes []route.Prefix, attributes string) {
	t.Helper()
	sizes := 0
	for _, m := range take(data) {
		size := 19 + len(m.Body)
		sizes += size
		if m.Kind != api.Update || size > 4096 {
			t.Fatalf("P5: a message of the type %d with %d bytes", m.Kind, size)
		}
		u := ReadUpdate(m.Body, attributes != "")
		list := u.Withdrawn
		if attributes != "" {
			list = u.Announced
		}
		if want := news("", attributes, ""); len(u.Withdrawn) > 0 == (attributes != "") || attributes != "" && !strings.HasPrefix(m.Body, want) {
			t.Fatalf("P5: an Update %x, want %x", m.Body, want)
		}
		for i, p := range list {
			if i >= len(prefixes) || prefixes[i] != p {
				t.Fatalf("P5: the prefix %+v of the Update is another one", p)
			}
		}
		prefixes = prefixes[len(list):]
		if len(prefixes) > 0 && size+prefixSize(prefixes[0].Len) <= 4096 {
			t.Fatalf("P4: an Update of %d bytes has room for %+v", size, prefixes[0])
		}
	}
	if sizes != len(data) || len(prefixes) > 0 {
		t.Fatalf("P5: %d bytes of %d are messages, and %d prefixes are missing", sizes, len(data), len(prefixes))
	}
}

func TestP4WhatFits(t *testing.T) {
	for _, c := range []struct {
		size, bits int
		want       bool
	}{
		{0, 32, true}, {4072, 0, true}, {4073, 0, false}, {4071, 1, true}, {4071, 8, true}, {4071, 9, false},
		{4070, 16, true}, {4070, 17, false}, {4069, 24, true}, {4069, 25, false}, {4068, 32, true}, {4069, 32, false}, {5000, 0, false},
	} {
		attributes := strings.Repeat("x", c.size)
		p := route.PrefixOf(math.MaxUint32, c.bits)
		if got := Fits(attributes, p); got != c.want {
			t.Errorf("P4: %d bytes of attributes and %d bits fit: %v, want %v", c.size, c.bits, got, c.want)
		}
		if n := len(Announce(attributes, []route.Prefix{p})); c.want && n > 4096 {
			t.Errorf("P5: an Update of %d bytes", n)
		}
	}
}
