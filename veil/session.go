package veil

import (
	"strings"

	"veil/api"
	"veil/frame"
	"veil/graph"
)

// session is an open session. Answers and the frames of each subscription wait in queues of their own, as those of a subscription may all be thrown away at once.
type session struct {
	who       string
	bytes     string // what came in of a frame of which the rest is still to come
	brokenOff bool
	putOut    int // how many frames were put out so far
	answers   queue
	subs      [api.MaxSubs]*subscription // nil: there is none
}

// subscription is a subscription to a view.
type subscription struct {
	view    *graph.View
	frames  int // how many it has had since it began
	waiting queue
}

// newSession copies the name, as the text that it is part of is not to be kept.
func newSession(who string) *session { return &session{who: strings.Clone(who)} }

// take lays bytes to those of the session, and takes the requests of the frames with which these begin; it tells too whether what stands behind is broken.
func (s *session) take(bytes string) ([]string, bool) {
	if s.brokenOff {
		return nil, false
	}
	bytes = s.bytes + bytes
	requests, taken, broken := frame.Unpack(bytes)
	s.bytes = ""
	if !broken {
		s.bytes = strings.Clone(bytes[taken:])
	}
	return requests, broken
}

func (s *session) breakOff() {
	s.endAll()
	s.brokenOff = true
	s.answer("bye")
}

// end ends a subscription. Its frames go with it.
func (s *session) end(number int) {
	s.subs[number].view.End()
	s.subs[number] = nil
}

func (s *session) endAll() {
	for number, sub := range s.subs {
		if sub != nil {
			s.end(number)
		}
	}
}

func (s *session) answer(payload string) {
	s.answers.add(s.next(), payload)
}

// next is the place of a new frame among all of the session's.
func (s *session) next() int {
	s.putOut++
	return s.putOut
}

// drain takes the first most frames out, one behind the other.
func (s *session) drain(most int) string {
	var frames strings.Builder
	for range most {
		first := s.first()
		if first.empty() {
			break
		}
		frames.WriteString(frame.Pack(first.take()))
	}
	return frames.String()
}

// first is the queue of which a frame was put out ahead of those of all others, or an empty one if no frame waits.
func (s *session) first() *queue {
	first := &s.answers
	for _, sub := range s.subs {
		if sub != nil && sub.waiting.ahead(first) {
			first = &sub.waiting
		}
	}
	return first
}
