package message

import (
	"strings"

	"waypost/api"
)

const (
	marker = "\xff\xff\xff\xff\xff\xff\xff\xff\xff\xff\xff\xff\xff\xff\xff\xff"

	lengthAt = len(marker) // in the header
	kindAt   = lengthAt + 2
)

// The fewest bytes of a message.
const (
	leastOpen         = api.HeaderSize + openSize
	leastUpdate       = api.HeaderSize + 4
	leastNotification = api.HeaderSize + 2
)

// checkHeader panics with a Notification if no message begins with head.
func checkHeader(head string) {
	n, kind := lengthOf(head), kindOf(head)
	switch {
	case !strings.HasPrefix(head, marker):
		Refuse(codeHeader, subNotMarked, "")
	case n < api.HeaderSize || n > api.MaxMessage:
		Refuse(codeHeader, subLength, head[lengthAt:kindAt])
	case kind < api.Open || kind > api.Keepalive:
		Refuse(codeHeader, subKind, head[kindAt:kindAt+1])
	case !lengthMayBe(kind, n):
		Refuse(codeHeader, subLength, head[lengthAt:kindAt])
	}
}

func lengthMayBe(kind, n int) bool {
	switch kind {
	case api.Open:
		return n >= leastOpen
	case api.Update:
		return n >= leastUpdate
	case api.Notification:
		return n >= leastNotification
	}
	return n == api.HeaderSize
}

func lengthOf(head string) int {
	return int(number(head[lengthAt:kindAt]))
}

func kindOf(head string) int {
	return int(head[kindAt])
}

// assemble is the message of a type with body behind its header.
func assemble(kind byte, body string) string {
	return marker + two(api.HeaderSize+len(body)) + string([]byte{kind}) + body
}
