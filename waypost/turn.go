package waypost

import (
	"sync"

	"waypost/api"
	"waypost/session"
)

// done is what the session with a peer has done at a turn.
type done struct {
	peer   int
	report session.Report
}

// later is the time behind ticks more. They are held against what is left of the time, as the sum may be no number.
func later(now, ticks int) int {
	return now + min(max(ticks, 0), api.MaxTime-now)
}

// split gives each peer its inputs, in their order.
func (s *Speaker) split(in []api.Input) [][]api.Input {
	all := make([][]api.Input, len(s.sessions))
	for _, input := range in {
		if s.has(input.Peer) {
			all[input.Peer] = append(all[input.Peer], input)
		}
	}
	return all
}

// work lets each session do its part of the turn, by itself, and answers what they have done, in the order of the peers.
func (s *Speaker) work(in [][]api.Input) []session.Report {
	back := make(chan done, len(s.sessions))
	finished := make(chan struct{})
	var workers sync.WaitGroup
	for i := range s.sessions {
		workers.Go(func() {
			back <- done{i, s.sessions[i].Turn(s.now, in[i])}
		})
	}
	go func() {
		workers.Wait()
		close(finished)
	}()
	return gather(back, finished, len(s.sessions))
}

// gather takes what comes back from n sessions till all are done.
func gather(back <-chan done, finished <-chan struct{}, n int) []session.Report {
	reports := make([]session.Report, n)
	for {
		select {
		case d := <-back:
			reports[d.peer] = d.report
		case <-finished:
			// The select may choose this one while some still lie in the other.
			for range len(back) {
				d := <-back
				reports[d.peer] = d.report
			}
			return reports
		}
	}
}

// outputs leaves out the peers of which there is nothing to tell.
func outputs(reports []session.Report) []api.Output {
	var list []api.Output
	for peer, r := range reports {
		if len(r.Sent) > 0 || r.Closed {
			list = append(list, api.Output{Peer: peer, Data: string(r.Sent), Closed: r.Closed})
		}
	}
	return list
}
