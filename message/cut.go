// Package message cuts the bytes of a connection into messages, reads these and writes others. What may not be is given up by a panic with the Notification that tells it.
package message

import "waypost/api"

// Message is one that came in whole: its type, and what stands behind its header.
type Message struct {
	Kind int
	Body string
}

// Cutter cuts the bytes of one connection into messages. It keeps what has come of one that is not whole.
type Cutter struct {
	part []byte
}

// Next takes bytes from the front of data, to the end of a message at most. It tells what is left of data, and the message, if it is whole now. It panics with a Notification if no message begins so.
func (c *Cutter) Next(data string) (rest string, m Message, whole bool) {
	n := min(c.wanted(), len(data))
	c.part = append(c.part, data[:n]...)
	if len(c.part) == api.HeaderSize {
		checkHeader(c.head())
	}
	if c.wanted() > 0 {
		return data[n:], Message{}, false
	}
	m = Message{kindOf(c.head()), string(c.part[api.HeaderSize:])}
	c.part = c.part[:0]
	return data[n:], m, true
}

// wanted is how many bytes are missing till there is something to be looked at: the header, then the whole message.
func (c *Cutter) wanted() int {
	if len(c.part) < api.HeaderSize {
		return api.HeaderSize - len(c.part)
	}
	return lengthOf(c.head()) - len(c.part)
}

func (c *Cutter) head() string {
	return string(c.part[:api.HeaderSize])
}
