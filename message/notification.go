package message

import "waypost/api"

// The codes of Notifications, and behind each its subcodes.
const (
	codeHeader   = 1
	subNotMarked = 1
	subLength    = 2
	subKind      = 3

	codeOpen   = 2
	subVersion = 1
	subAS      = 2
	subID      = 3
	subMore    = 4
	subHold    = 6

	codeHold  = 4
	codeState = 5
)

// Notification tells a peer why its connection is closed.
type Notification struct {
	Code, Subcode byte
	Data          string
}

// Refuse gives up the message that is looked at.
func Refuse(code, subcode byte, data string) {
	panic(Notification{code, subcode, data})
}

// RefuseHere gives up a message that does not belong where it came.
func RefuseHere() {
	Refuse(codeState, 0, "")
}

// Silence is the Notification of a peer that was silent for the hold time.
func Silence() Notification {
	return Notification{Code: codeHold}
}

// Bytes is the whole message.
func (n Notification) Bytes() string {
	return assemble(api.Notification, string([]byte{n.Code, n.Subcode})+n.Data)
}
