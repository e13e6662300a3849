package session

import (
	"waypost/api"
	"waypost/message"
	"waypost/route"
)

// Report is what a session has done at a turn: what was sent to the peer, whether the speaker closed the connection, and to which prefixes the peer's route may be another one now.
type Report struct {
	Sent    []byte
	Closed  bool
	Changed map[route.Prefix]struct{}
}

// turn is a session at work at one turn.
type turn struct {
	*Session
	now    int
	report Report
	over   bool // what else comes in at this turn is nothing
}

// Turn does the session's part of a turn at the time now.
func (s *Session) Turn(now int, in []api.Input) Report {
	t := &turn{Session: s, now: now, report: Report{Changed: map[route.Prefix]struct{}{}}}
	t.work(in)
	return t.report
}

func (t *turn) work(in []api.Input) {
	defer func() {
		switch why := recover().(type) {
		case nil:
		case message.Notification:
			t.refuse(why)
		default:
			panic(why) // not a message's fault, but the program's own
		}
	}()
	t.watch()
	for i := 0; i < len(in) && !t.over; i++ {
		t.take(in[i])
	}
}

// watch looks at the timers.
func (t *turn) watch() {
	if t.silent(t.now) {
		t.refuse(message.Silence())
	} else if t.owes(t.now) {
		t.send(message.Keepalive())
	}
}

func (t *turn) take(in api.Input) {
	switch in.Kind {
	case api.Connect:
		t.connect()
	case api.Bytes:
		t.hear(in.Data)
	case api.Reset:
		t.end()
	}
}

func (t *turn) connect() {
	if t.state != api.Idle {
		return
	}
	t.state, t.hold, t.heard = api.OpenSent, t.peer.Hold, t.now
	t.send(message.Open{AS: t.config.AS, Hold: t.peer.Hold, ID: t.config.ID}.Bytes())
}

func (t *turn) hear(data string) {
	if t.state == api.Idle {
		return
	}
	for data != "" && !t.over {
		rest, m, whole := t.cut.Next(data)
		if whole {
			t.obey(m)
		}
		data = rest
	}
}

// obey does what a message asks for.
func (t *turn) obey(m message.Message) {
	if !t.belongs(m.Kind) {
		message.RefuseHere()
	}
	t.heard = t.now
	switch m.Kind {
	case api.Open:
		t.greet(message.ReadOpen(m.Body, t.peer.AS))
	case api.Update:
		t.learn(message.ReadUpdate(m.Body, !t.external()))
	case api.Keepalive:
		t.state = api.Established
	case api.Notification:
		t.close()
	}
}

// greet answers the peer's Open. The lesser hold time is 0 if one of both is.
func (t *turn) greet(o message.Open) {
	t.state, t.number, t.hold = api.OpenConfirm, o.ID, min(t.peer.Hold, o.Hold)
	t.send(message.Keepalive())
}

func (t *turn) send(bytes string) {
	t.report.Sent = append(t.report.Sent, bytes...)
	t.spoke = t.now
}

func (t *turn) refuse(why message.Notification) {
	t.send(why.Bytes())
	t.close()
}

func (t *turn) close() {
	t.report.Closed = true
	t.end()
}

func (t *turn) end() {
	t.forget()
	t.idle()
	t.over = true
}
