package message

import "waypost/api"

// The codes of Notifications, and behind each its subcodes.
const (
	codeHeader   = 1
	subNotMarked = 1
	subLength    = 2
	subKind      = 3

	codeOpen   = 2
	subVersion = 1
	subAS      = 2
	subID      = 3
	subMore    = 4
	subHold    = 6

	codeUpdate = 3
	subList    = 1
	subUnknown = 2
	subMissing = 3
	subFlags   = 4
	subSize    = 5
	subOrigin  = 6
	subNextHop = 8
	subPrefix  = 10
	subPath    = 11

	codeHold  = 4
	codeState = 5

	codeLimit = 6
	subLimit  = 1
)

// Notification tells a peer why its connection is closed.
type Notification struct {
	Code, Subcode byte
	Data          string
}

// Refuse gives up the message that is looked at.
func Refuse(code, subcode byte, data string) {
	panic(Notification{code, subcode, data})
}

// RefuseHere gives up a message that does not belong where it came.
func RefuseHere() {
	Refuse(codeState, 0, "")
}

// RefuseMore gives up a message by which the peer tells more prefixes than it may.
func RefuseMore() {
	Refuse(codeLimit, subLimit, "")
}

// Silence is the Notification of a peer that was silent for the hold time.
func Silence() Notification {
	return Notification{Code: codeHold}
}

// Bytes is the whole message.
func (n Notification) Bytes() string {
	return assemble(api.Notification, string([]byte{n.Code, n.Subcode})+n.Data)
}
