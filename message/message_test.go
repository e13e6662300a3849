package message

import (
	"slices"
	"strings"
	"testing"

	"waypost/api"
)

// mark is written apart from the program's own constant, so that the tests see a change of it.
const mark = "\xff\xff\xff\xff\xff\xff\xff\xff\xff\xff\xff\xff\xff\xff\xff\xff"

// head is a header: the bytes of the length, the type.
func head(length, kind int) string {
	return mark + string([]byte{byte(length >> 8), byte(length), byte(kind)})
}

// raw is a message, with the length as it is.
func raw(kind int, body string) string {
	return head(19+len(body), kind) + body
}

// refusal is the Notification by which call panics; false if it does not.
func refusal(t *testing.T, call func()) (n Notification, refused bool) {
	t.Helper()
	defer func() {
		switch why := recover().(type) {
		case nil:
		case Notification:
			n, refused = why, true
		default:
			t.Fatalf("P1: panics with %v", why)
		}
	}()
	call()
	return Notification{}, false
}

// checkRefused fails the test if call does not panic with want.
func checkRefused(t *testing.T, name string, want Notification, call func()) {
	t.Helper()
	if n, refused := refusal(t, call); !refused || n != want {
		t.Errorf("P4: %s: %#v, refused %v, want %#v", name, n, refused, want)
	}
}

// checkTaken fails the test if call panics.
func checkTaken(t *testing.T, name string, call func()) {
	t.Helper()
	if n, refused := refusal(t, call); refused {
		t.Errorf("P4: %s: refused by %#v", name, n)
	}
}

// take lets a new cutter take data, and answers the messages.
func take(data string) []Message {
	var c Cutter
	return takeBy(&c, data)
}

func takeBy(c *Cutter, data string) []Message {
	var all []Message
	for data != "" {
		rest, m, whole := c.Next(data)
		if whole {
			all = append(all, m)
		}
		data = rest
	}
	return all
}

func TestP4LengthsThatMayBe(t *testing.T) {
	for _, c := range []struct{ kind, from, to int }{
		{api.Open, 29, 4096}, {api.Update, 23, 4096}, {api.Notification, 21, 4096}, {api.Keepalive, 19, 19},
	} {
		for n := range 1 << 16 {
			h := head(n, c.kind)
			if n >= c.from && n <= c.to {
				checkTaken(t, "a header", func() { take(h) })
			} else {
				checkRefused(t, "a header", Notification{1, 2, h[16:18]}, func() { take(h) })
			}
		}
	}
}

func TestP4TypesThatMayBe(t *testing.T) {
	for kind := range 256 {
		h := head(100, kind)
		switch kind {
		case api.Open, api.Update, api.Notification:
			checkTaken(t, "a type", func() { take(h) })
		case api.Keepalive:
			checkRefused(t, "a long Keepalive", Notification{1, 2, "\x00\x64"}, func() { take(h) })
		default:
			checkRefused(t, "a type", Notification{1, 3, h[18:]}, func() { take(h) })
		}
	}
}

func TestP4EachByteOfTheMarker(t *testing.T) {
	for i := range 16 {
		for _, b := range []byte{0, 1, 127, 128, 254} {
			h := []byte(Keepalive())
			h[i] = b
			checkRefused(t, "a marker", Notification{Code: 1, Subcode: 1}, func() { take(string(h)) })
		}
	}
}

func TestP4FirstFaultOfAHeader(t *testing.T) {
	for _, c := range []struct {
		name, head string
		want       Notification
	}{
		{"all is wrong", "\xfe" + head(0, 9)[1:], Notification{1, 1, ""}},
		{"marker and type", "\x00" + head(19, 9)[1:], Notification{1, 1, ""}},
		{"length and type", head(18, 0), Notification{1, 2, "\x00\x12"}},
		{"length and type", head(4097, 5), Notification{1, 2, "\x10\x01"}},
		{"the document's", strings.Repeat("\xff", 18) + "\x05", Notification{1, 2, "\xff\xff"}},
		{"the type 255", head(19, 255), Notification{1, 3, "\xff"}},
		{"the type 5, and the least length", head(19, 5), Notification{1, 3, "\x05"}},
	} {
		checkRefused(t, c.name, c.want, func() { take(c.head) })
		checkRefused(t, c.name+", and more", c.want, func() { take(c.head + strings.Repeat("\x00", 5000)) })
	}
}

// Eighteen bytes are not looked at, be they what they may.
func TestP4NothingIsLookedAtAhead(t *testing.T) {
	for _, b := range []string{"\x00", "\xff", "\x04"} {
		var c Cutter
		checkTaken(t, "eighteen bytes", func() { takeBy(&c, strings.Repeat(b, 18)) })
		if _, refused := refusal(t, func() { takeBy(&c, b) }); !refused {
			t.Errorf("P4: nineteen bytes %q are taken", b)
		}
	}
}

// stream is many messages one behind the other, of all types and of the least and the greatest length.
func stream() (string, []Message) {
	all := []Message{
		{api.Keepalive, ""}, {api.Open, "0123456789"}, {api.Open, strings.Repeat("o", 4077)}, {api.Keepalive, ""}, {api.Keepalive, ""},
		{api.Update, "\x00\x00\x00\x00"}, {api.Update, strings.Repeat("\xff", 4077)}, {api.Notification, "\x06\x02"}, {api.Notification, "\x06\x02why"},
	}
	var data strings.Builder
	for _, m := range all {
		data.WriteString(raw(m.Kind, m.Body))
	}
	return data.String(), all
}

func TestP9CutAtEachPlace(t *testing.T) {
	data, want := stream()
	for i := range len(data) + 1 {
		var c Cutter
		got := takeBy(&c, data[:i])
		if got = append(got, takeBy(&c, data[i:])...); !slices.Equal(got, want) {
			t.Fatalf("P9: cut at %d: %d messages, want %d", i, len(got), len(want))
		}
	}
}

func TestP9CutIntoEqualPieces(t *testing.T) {
	data, want := stream()
	for _, size := range []int{1, 2, 7, 18, 19, 20, 21, 4095, 4096, 4097} {
		var c Cutter
		var got []Message
		for piece := range slices.Chunk([]byte(data), size) {
			got = append(got, takeBy(&c, string(piece))...)
		}
		if !slices.Equal(got, want) {
			t.Errorf("P9: pieces of %d: %d messages, want %d", size, len(got), len(want))
		}
	}
}

// What a message was does not change when the next one comes.
func TestP2MessagesAreTheirOwn(t *testing.T) {
	var c Cutter
	first := takeBy(&c, raw(api.Notification, "\x06\x02one"))
	takeBy(&c, raw(api.Notification, "\x07\x03other"))
	if want := []Message{{api.Notification, "\x06\x02one"}}; !slices.Equal(first, want) {
		t.Errorf("P2: the messages became %#v, want %#v", first, want)
	}
}

// No more is taken than one message may have.
func TestP9NoMoreIsKeptThanAMessage(t *testing.T) {
	var c Cutter
	takeBy(&c, strings.Repeat(Keepalive(), 10000)+raw(api.Update, strings.Repeat("u", 4077))[:4095])
	if len(c.part) != 4095 || cap(c.part) > 3*api.MaxMessage {
		t.Errorf("P9: %d bytes wait in room for %d, want 4095", len(c.part), cap(c.part))
	}
}

// body is the body of an Open of AS 513 that may be, but for what f does to it.
func body(f func(b []byte) []byte) string {
	return string(f([]byte("\x04\x02\x01\x00\x1e\x01\x02\x03\x04\x00")))
}

// set is body with some of its bytes set: a place and a value, and so on.
func set(pairs ...int) string {
	return body(func(b []byte) []byte {
		for i := 0; i < len(pairs); i += 2 {
			b[pairs[i]] = byte(pairs[i+1])
		}
		return b
	})
}

func TestP4OpensThatMayBe(t *testing.T) {
	for _, c := range []struct {
		body string
		want Open
	}{
		{set(), Open{513, 30, 0x01020304}},
		{set(4, 0), Open{513, 0, 0x01020304}},
		{set(4, 3), Open{513, 3, 0x01020304}},
		{set(3, 1, 4, 1), Open{513, 257, 0x01020304}},
		{set(3, 1, 4, 0), Open{513, 256, 0x01020304}},
		{set(3, 255, 4, 255), Open{513, 65535, 0x01020304}},
		{set(5, 0, 6, 0, 7, 0, 8, 1), Open{513, 30, 1}},
		{set(6, 0, 7, 0, 8, 0), Open{513, 30, 1 << 24}},
		{set(5, 255, 6, 255, 7, 255, 8, 255), Open{513, 30, 1<<32 - 1}},
	} {
		checkTaken(t, "an Open", func() {
			if got := ReadOpen(c.body, 513); got != c.want {
				t.Errorf("P4: the Open %x: %+v, want %+v", c.body, got, c.want)
			}
		})
	}
	for _, as := range []int{1, 255, 256, 65535} {
		checkTaken(t, "an AS", func() { ReadOpen(set(1, as>>8, 2, as), as) })
	}
}

func TestP4OpensThatMayNotBe(t *testing.T) {
	for _, c := range []struct {
		name, body string
		want       Notification
	}{
		{"version 3", set(0, 3), Notification{2, 1, "\x00\x04"}},
		{"version 0", set(0, 0), Notification{2, 1, "\x00\x04"}},
		{"version 5, and all else", set(0, 5, 1, 9, 3, 0, 4, 1, 5, 0, 6, 0, 7, 0, 8, 0, 9, 1), Notification{2, 1, "\x00\x04"}},
		{"the AS's first byte", set(1, 3), Notification{2, 2, ""}},
		{"the AS's second byte", set(2, 2), Notification{2, 2, ""}},
		{"the AS 0", set(1, 0, 2, 0), Notification{2, 2, ""}},
		{"the AS, and all behind", set(2, 2, 4, 1, 5, 0, 6, 0, 7, 0, 8, 0, 9, 1), Notification{2, 2, ""}},
		{"hold 1", set(4, 1), Notification{2, 6, ""}},
		{"hold 2", set(4, 2), Notification{2, 6, ""}},
		{"hold 2, and all behind", set(4, 2, 5, 0, 6, 0, 7, 0, 8, 0, 9, 1), Notification{2, 6, ""}},
		{"the number 0", set(5, 0, 6, 0, 7, 0, 8, 0), Notification{2, 3, ""}},
		{"the number 0, and the last byte", set(5, 0, 6, 0, 7, 0, 8, 0, 9, 1), Notification{2, 3, ""}},
		{"the last byte", set(9, 1), Notification{2, 4, ""}},
		{"the last byte 255", set(9, 255), Notification{2, 4, ""}},
		{"a byte more", set() + "\x00", Notification{2, 4, ""}},
		{"many bytes more", set(9, 200) + strings.Repeat("x", 4067), Notification{2, 4, ""}},
	} {
		checkRefused(t, c.name, c.want, func() { ReadOpen(c.body, 513) })
	}
}

func TestP4WhatIsWritten(t *testing.T) {
	for _, c := range []struct{ name, got, want string }{
		{"the document's Open", Open{65000, 90, 0x01020304}.Bytes(), mark + "\x00\x1d\x01\x04\xfd\xe8\x00\x5a\x01\x02\x03\x04\x00"},
		{"an Open of the greatest numbers", Open{65535, 65535, 1<<32 - 1}.Bytes(), mark + "\x00\x1d\x01\x04\xff\xff\xff\xff\xff\xff\xff\xff\x00"},
		{"a Keepalive", Keepalive(), mark + "\x00\x13\x04"},
		{"Silence", Silence().Bytes(), mark + "\x00\x15\x03\x04\x00"},
		{"a Notification with data", Notification{1, 2, "\xff\xff"}.Bytes(), mark + "\x00\x17\x03\x01\x02\xff\xff"},
		{"a long Notification", Notification{3, 2, strings.Repeat("d", 300)}.Bytes(), mark + "\x01\x41\x03\x03\x02" + strings.Repeat("d", 300)},
	} {
		if c.got != c.want {
			t.Errorf("P4: %s: %x, want %x", c.name, c.got, c.want)
		}
	}
	checkRefused(t, "RefuseHere", Notification{5, 0, ""}, RefuseHere)
}
