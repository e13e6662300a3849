package message

import (
	"math"
	"math/rand"
	"reflect"
	"slices"
	"strings"
	"testing"

	"waypost/api"
	"waypost/route"
)

// inTwo is n in two bytes.
func inTwo(n int) string { return string([]byte{byte(n >> 8), byte(n)}) }

// news is the body of an Update.
func news(withdrawn, attributes, announced string) string {
	return inTwo(len(withdrawn)) + withdrawn + inTwo(len(attributes)) + attributes + announced
}

// attr is an attribute; with the flag 16 its length has two bytes.
func attr(flags, kind byte, value string) string {
	if flags&16 != 0 {
		return string([]byte{flags, kind}) + inTwo(len(value)) + value
	}
	return string([]byte{flags, kind, byte(len(value))}) + value
}

var (
	igp   = attr(64, 1, "\x00")
	way   = attr(64, 2, "\x02\x01\xfd\xe9")
	hop   = attr(64, 3, "\x0a\x00\x00\x01")
	med   = attr(128, 4, "\x01\x02\x03\x04")
	liked = attr(64, 5, "\x00\x00\x00\x64")

	needed = igp + way + hop
)

const ten = "\x08\x0a"

// The document's example.
func TestP4UpdateOfTheDocument(t *testing.T) {
	body := "\x00\x00" + "\x00\x12" + "\x40\x01\x01\x00" + "\x40\x02\x04\x02\x01\xfd\xe9" + "\x40\x03\x04\x0a\x00\x00\x01" + "\x18\x0a\x01\x02"
	want := Update{
		Announced: []route.Prefix{{Addr: 0x0a010200, Len: 24}},
		Route:     route.Route{Path: "\x02\x01\xfd\xe9", NextHop: 0x0a000001, Metric: -1},
	}
	checkTaken(t, "the document's", func() {
		if got := ReadUpdate(body, false); !reflect.DeepEqual(got, want) {
			t.Errorf("P4: the document's Update: %+v, want %+v", got, want)
		}
	})
}

// checkRead fails the test if an Update is not taken, or another one than want.
func checkRead(t *testing.T, name, body string, internal bool, want Update) {
	t.Helper()
	checkTaken(t, name, func() {
		if got := ReadUpdate(body, internal); !reflect.DeepEqual(got, want) {
			t.Errorf("P4: %s: %+v, want %+v", name, got, want)
		}
	})
}

func TestP4UpdatesThatMayBe(t *testing.T) {
	none := route.Route{Metric: route.NoMetric}
	checkRead(t, "nothing", news("", "", ""), false, Update{Route: none})
	checkRead(t, "nothing, of an internal peer", news("", "", ""), true, Update{Route: none})
	checkRead(t, "withdrawn", news(ten+"\x00"+ten, "", ""), false, Update{Route: none, Withdrawn: []route.Prefix{{Addr: 10 << 24, Len: 8}, {}, {Addr: 10 << 24, Len: 8}}})
	checkRead(t, "attributes alone", news("", med, ""), false, Update{Route: route.Route{Metric: 0x01020304}})
	checkRead(t, "all", news("\x01\x80", needed+med+liked, "\x10\x01\x02"), true, Update{
		Withdrawn: []route.Prefix{{Addr: 1 << 31, Len: 1}},
		Announced: []route.Prefix{{Addr: 0x01020000, Len: 16}},
		Route:     route.Route{Pref: 100, Path: "\x02\x01\xfd\xe9", NextHop: 0x0a000001, Metric: 0x01020304},
	})
	checkRead(t, "in another order, of an external peer", news("", liked+med+hop+way+igp, "\x00"), false, Update{
		Announced: []route.Prefix{{}},
		Route:     route.Route{Pref: 100, Path: "\x02\x01\xfd\xe9", NextHop: 0x0a000001, Metric: 0x01020304},
	})
}

func TestP4ValuesThatMayBe(t *testing.T) {
	for _, c := range []struct {
		name, attribute string
		want            route.Route
	}{
		{"origin 1", attr(64, 1, "\x01"), route.Route{Origin: 1, Metric: -1}},
		{"origin 2", attr(64, 1, "\x02"), route.Route{Origin: 2, Metric: -1}},
		{"no path", attr(64, 2, ""), route.Route{Metric: -1}},
		{"the least next hop", attr(64, 3, "\x00\x00\x00\x01"), route.Route{NextHop: 1, Metric: -1}},
		{"the greatest next hop", attr(64, 3, "\xff\xff\xff\xfe"), route.Route{NextHop: math.MaxUint32 - 1, Metric: -1}},
		{"the metric 0", attr(128, 4, "\x00\x00\x00\x00"), route.Route{}},
		{"the greatest metric", attr(128, 4, "\xff\xff\xff\xff"), route.Route{Metric: math.MaxUint32}},
		{"the greatest LocalPref", attr(64, 5, "\xff\xff\xff\xff"), route.Route{Pref: math.MaxUint32, Metric: -1}},
		{"flags of no matter", attr(64+32+15, 1, "\x01"), route.Route{Origin: 1, Metric: -1}},
		{"flags of no matter", attr(128+32+9, 4, "\x00\x00\x00\x07"), route.Route{Metric: 7}},
		{"a long one", attr(64+16, 1, "\x01"), route.Route{Origin: 1, Metric: -1}},
		{"a long path", attr(64+16, 2, strings.Repeat("\x01\x01\x00\x09", 900)), route.Route{Path: route.Path(strings.Repeat("\x01\x01\x00\x09", 900)), Metric: -1}},
		{"one that is not known", attr(128, 6, "xyz"), route.Route{Metric: -1}},
		{"one that is not known, transitive", attr(192, 0, ""), route.Route{Metric: -1}},
		{"one that is not known, long, with all flags", attr(255, 255, "\x40\x01"), route.Route{Metric: -1}},
	} {
		checkRead(t, c.name, news("", c.attribute, ""), false, Update{Route: c.want})
	}
}

func TestP4PrefixesThatMayBe(t *testing.T) {
	for n := range 33 {
		count := (n + 7) / 8
		bytes := string([]byte{byte(n)}) + "\xff\xff\xff\xff"[:count]
		want := []route.Prefix{route.PrefixOf(math.MaxUint32, n), route.PrefixOf(10<<24, 8)}
		checkTaken(t, "prefixes", func() {
			u := ReadUpdate(news(bytes+ten, needed, bytes+ten), false)
			if !slices.Equal(u.Withdrawn, want) || !slices.Equal(u.Announced, want) {
				t.Errorf("P4: a prefix of %d bits: %+v and %+v, want %+v", n, u.Withdrawn, u.Announced, want)
			}
		})
		for i := range count {
			short := bytes[:1+i]
			checkRefused(t, "a withdrawn prefix that is not whole", Notification{3, 10, ""}, func() { ReadUpdate(news(short, needed, ten), false) })
			checkRefused(t, "an announced prefix that is not whole", Notification{3, 10, ""}, func() { ReadUpdate(news(ten, needed, ten+short), false) })
		}
	}
	for n := 33; n < 256; n++ {
		long := string([]byte{byte(n)}) + strings.Repeat("\x00", 40)
		checkRefused(t, "a withdrawn prefix that is too long", Notification{3, 10, ""}, func() { ReadUpdate(news(ten+long, needed, ten), false) })
		checkRefused(t, "an announced prefix that is too long", Notification{3, 10, ""}, func() { ReadUpdate(news("", needed, long), false) })
	}
}

// What is told of the whole Update, and of attributes that are not known.
func TestP4UpdatesThatMayNotBe(t *testing.T) {
	cut := Notification{3, 1, ""}
	for _, c := range []struct {
		name, body string
		want       Notification
	}{
		{"more withdrawn bytes than there are", "\x00\x01\x00\x00", cut},
		{"many more withdrawn bytes than there are", "\xff\xff" + news("", needed, ten), cut},
		{"no room for how many attributes", "\x00\x02\x01\x80", cut},
		{"half a room for how many attributes", "\x00\x02\x01\x80\x00", cut},
		{"more attributes than there are", "\x00\x00\x00\x01", cut},
		{"many more attributes than there are", "\x00\x00\xff\xff" + needed, cut},
		{"one byte of a head", news("", igp+"\x40", ""), cut},
		{"two bytes of a head", news("", "\x40\x01", ""), cut},
		{"three bytes of a long head", news("", "\x50\x01\x00", ""), cut},
		{"a value of none", news("", "\x40\x01\x01", ""), cut},
		{"a value but for a byte", news("", needed+"\x80\x04\x04\x00\x00\x00", ten), cut},
		{"a long value but for a byte", news("", "\x90\x09\x01\x00"+strings.Repeat("x", 255), ""), cut},
		{"Origin twice", news("", needed+igp, ten), cut},
		{"LocalPref twice, the second another", news("", liked+attr(64, 5, "\x00\x00\x00\x01"), ""), cut},
		{"one that is not known twice", news("", attr(128, 99, "")+med+attr(192, 99, "x"), ""), cut},
		{"the type 0", news("", attr(64, 0, ""), ""), Notification{3, 2, attr(64, 0, "")}},
		{"the type 6", news("", needed+attr(64, 6, "why"), ten), Notification{3, 2, attr(64, 6, "why")}},
		{"the type 255, long", news("", attr(127, 255, "why"), ""), Notification{3, 2, attr(127, 255, "why")}},
		{"the type 9 without flags", news("", attr(0, 9, ""), ""), Notification{3, 2, attr(0, 9, "")}},
		{"no path that may be", news("", attr(64, 2, "\x02"), ""), Notification{3, 11, ""}},
		{"a segment of 0", news("", attr(64, 2, "\x02\x00"), ""), Notification{3, 11, ""}},
		{"a segment of the type 3", news("", attr(64, 2, "\x03\x01\x00\x01"), ""), Notification{3, 11, ""}},
		{"a segment that is not whole", news("", attr(64, 2, "\x02\x01\xfd\xe9\x01\x02\x00\x01\x00"), ""), Notification{3, 11, ""}},
		{"no Origin", news("", way+hop+med+liked, ten), Notification{3, 3, "\x01"}},
		{"no Path", news("", igp+hop+liked, ten), Notification{3, 3, "\x02"}},
		{"no NextHop", news("", igp+way, ten), Notification{3, 3, "\x03"}},
		{"none", news("", "", ten), Notification{3, 3, "\x01"}},
		{"neither Path nor NextHop", news("", igp, ten), Notification{3, 3, "\x02"}},
		{"none that is known", news("", attr(128, 9, ""), ten), Notification{3, 3, "\x01"}},
	} {
		for _, internal := range []bool{false, true} {
			checkRefused(t, c.name, c.want, func() { ReadUpdate(c.body, internal) })
		}
	}
}

// An internal peer must tell LocalPref, an external one need not; neither, where nothing is announced.
func TestP4WhoMustTellLocalPref(t *testing.T) {
	checkRefused(t, "no LocalPref", Notification{3, 3, "\x05"}, func() { ReadUpdate(news("", needed, ten), true) })
	checkRefused(t, "neither NextHop nor LocalPref", Notification{3, 3, "\x03"}, func() { ReadUpdate(news("", igp+way, ten), true) })
	checkTaken(t, "an external peer", func() { ReadUpdate(news("", needed, ten), false) })
	checkTaken(t, "nothing announced", func() { ReadUpdate(news(ten, igp, ""), true) })
	checkRefused(t, "an external peer's that is too short", Notification{3, 5, attr(64, 5, "abc")}, func() { ReadUpdate(news("", attr(64, 5, "abc"), ""), false) })
}

func TestP4FlagsThatMayBe(t *testing.T) {
	for _, a := range []struct {
		kind  byte
		value string
		flags int
	}{
		{1, "\x00", 64}, {2, "", 64}, {3, "\x01\x02\x03\x04", 64}, {4, "\x01\x02\x03\x04", 128}, {5, "\x01\x02\x03\x04", 64},
	} {
		for flags := range 256 {
			s := attr(byte(flags), a.kind, a.value)
			if flags&192 == a.flags {
				checkTaken(t, "flags", func() { ReadUpdate(news("", s, ""), false) })
			} else {
				checkRefused(t, "flags", Notification{3, 4, s}, func() { ReadUpdate(news("", s, ""), false) })
			}
		}
	}
}

func TestP4LengthsOfValues(t *testing.T) {
	for _, a := range []struct {
		flags, kind byte
		size        int
	}{
		{64, 1, 1}, {64, 3, 4}, {128, 4, 4}, {64, 5, 4},
	} {
		for n := range 300 {
			flags := a.flags
			if n > 255 {
				flags |= 16
			}
			s := attr(flags, a.kind, strings.Repeat("\x01", n))
			if n == a.size {
				checkTaken(t, "a length", func() { ReadUpdate(news("", s, ""), false) })
			} else {
				checkRefused(t, "a length", Notification{3, 5, s}, func() { ReadUpdate(news("", s, ""), false) })
			}
		}
	}
}

func TestP4ValuesThatMayNotBe(t *testing.T) {
	for n := 3; n < 256; n++ {
		s := attr(64, 1, string([]byte{byte(n)}))
		checkRefused(t, "an origin", Notification{3, 6, s}, func() { ReadUpdate(news("", s+way+hop, ten), false) })
	}
	for _, value := range []string{"\x00\x00\x00\x00", "\xff\xff\xff\xff"} {
		for _, flags := range []byte{64, 64 + 16, 64 + 32 + 1} {
			s := attr(flags, 3, value)
			checkRefused(t, "a next hop", Notification{3, 8, s}, func() { ReadUpdate(news("", igp+way+s, ten), false) })
		}
	}
	greatest := attr(64+16, 1, strings.Repeat("x", 4073-4))
	checkRefused(t, "the greatest attribute", Notification{3, 5, greatest}, func() { ReadUpdate(news("", greatest, ""), false) })
	if n := len(Notification{3, 5, greatest}.Bytes()); n > api.MaxMessage {
		t.Errorf("P5: the Notification of the greatest attribute has %d bytes", n)
	}
}

// Of several faults the first row's is told; those of attributes in the order of the attributes.
func TestP4FirstFaultOfAnUpdate(t *testing.T) {
	late := []struct{ name, withdrawn, attributes, announced string }{
		{"a withdrawn prefix", "\x21", "", ""}, {"an unknown one", "", attr(64, 9, ""), ""}, {"an announced prefix", "", "", "\x21"}, {"all", "\x21", attr(64, 9, "") + attr(0, 8, ""), "\x21"},
	}
	for _, c := range late {
		checkRefused(t, "cut ahead of "+c.name, Notification{3, 1, ""}, func() { ReadUpdate(news(c.withdrawn, c.attributes+igp+igp, c.announced), false) })
		checkRefused(t, "not whole ahead of "+c.name, Notification{3, 1, ""}, func() { ReadUpdate(news(c.withdrawn, c.attributes+"\x40", c.announced), false) })
	}
	checkRefused(t, "withdrawn ahead of attributes", Notification{3, 10, ""}, func() { ReadUpdate(news("\x21", attr(64, 9, ""), "\x21"), false) })
	checkRefused(t, "missing ahead of announced", Notification{3, 3, "\x02"}, func() { ReadUpdate(news("", igp+hop, "\x21"), false) })
	checkRefused(t, "announced last", Notification{3, 10, ""}, func() { ReadUpdate(news("", needed, ten+"\x21"), false) })

	faults := []struct {
		s    string
		want Notification
	}{
		{attr(64, 9, ""), Notification{3, 2, attr(64, 9, "")}},
		{attr(192, 1, "\x09\x09"), Notification{3, 4, attr(192, 1, "\x09\x09")}},
		{attr(64, 4, ""), Notification{3, 4, attr(64, 4, "")}},
		{attr(64, 2, "\x02"), Notification{3, 11, ""}},
		{attr(64, 3, "\x00\x00\x00\x00"), Notification{3, 8, attr(64, 3, "\x00\x00\x00\x00")}},
		{attr(64, 5, "\xff\xff\xff\xff\xff"), Notification{3, 5, attr(64, 5, "\xff\xff\xff\xff\xff")}},
	}
	for i, first := range faults {
		for j, second := range faults {
			if i != j {
				body := news("", attr(128, 200, "")+first.s+second.s, "\x21")
				checkRefused(t, "the attributes' order", first.want, func() { ReadUpdate(body, true) })
			}
		}
	}
	// Of one attribute the flags go ahead of the length, this ahead of the value.
	checkRefused(t, "flags, length and value", Notification{3, 4, attr(0, 3, "\x00")}, func() { ReadUpdate(news("", attr(0, 3, "\x00"), ""), false) })
	checkRefused(t, "length and value", Notification{3, 5, attr(64, 1, "\x09\x09")}, func() { ReadUpdate(news("", attr(64, 1, "\x09\x09"), ""), false) })
	checkRefused(t, "flags and value of a path", Notification{3, 4, attr(192, 2, "\x02")}, func() { ReadUpdate(news("", attr(192, 2, "\x02"), ""), false) })
	checkRefused(t, "flags and value of an origin", Notification{3, 4, attr(128, 1, "\x09")}, func() { ReadUpdate(news("", attr(128, 1, "\x09"), ""), false) })
}

// Whatever the bytes, an Update is taken or refused by a Notification of code 3.
func TestP1WhateverAnUpdateHas(t *testing.T) {
	random := rand.New(rand.NewSource(1))
	good := news(ten+"\x11\x01\x02\x80", needed+med+liked, ten+"\x18\x01\x02\x03\x00")
	taken := 0
	for range 200000 {
		body := []byte(good)
		for range random.Intn(4) {
			body[random.Intn(len(body))] = byte(random.Intn(256))
		}
		if random.Intn(4) == 0 {
			body = body[:4+random.Intn(len(body)-3)]
		}
		n, refused := refusal(t, func() { ReadUpdate(string(body), random.Intn(2) > 0) })
		if refused && n.Code != 3 {
			t.Fatalf("P1: the Update %x is refused by %+v", body, n)
		}
		if !refused {
			taken++
		}
	}
	if taken < 1000 {
		t.Errorf("P1: %d Updates of the test are taken only", taken)
	}
	for range 20000 {
		body := make([]byte, 4+random.Intn(60))
		for i := range body {
			body[i] = byte(random.Intn(5)) * byte(random.Intn(65))
		}
		refusal(t, func() { ReadUpdate(string(body), false) })
	}
}

func TestP4TooMany(t *testing.T) {
	checkRefused(t, "RefuseMore", Notification{6, 1, ""}, RefuseMore)
}
