package message

import "waypost/api"

const (
	version   = 4
	leastHold = 3 // of a hold time that is not 0

	// Where the parts of an Open's body begin.
	asAt     = 1
	holdAt   = 3
	idAt     = 5
	moreAt   = 9
	openSize = 10
)

// Open is what an Open tells of the one that sends it.
type Open struct {
	AS, Hold int
	ID       uint32
}

// ReadOpen reads the body of an Open. It panics with a Notification if a peer of that AS may not send it.
func ReadOpen(body string, as int) Open {
	o := Open{
		AS:   int(number(body[asAt:holdAt])),
		Hold: int(number(body[holdAt:idAt])),
		ID:   number(body[idAt:moreAt]),
	}
	switch {
	case body[0] != version:
		Refuse(codeOpen, subVersion, two(version))
	case o.AS != as:
		Refuse(codeOpen, subAS, "")
	case o.Hold != 0 && o.Hold < leastHold:
		Refuse(codeOpen, subHold, "")
	case o.ID == 0:
		Refuse(codeOpen, subID, "")
	case body[moreAt] != 0 || len(body) > openSize:
		Refuse(codeOpen, subMore, "")
	}
	return o
}

// Bytes is the whole message.
func (o Open) Bytes() string {
	return assemble(api.Open, string([]byte{version})+two(o.AS)+two(o.Hold)+four(o.ID)+"\x00")
}

// Keepalive is a whole Keepalive.
func Keepalive() string {
	return assemble(api.Keepalive, "")
}
