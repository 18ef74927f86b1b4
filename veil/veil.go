// Package veil: views over tables, for those who may see them: see DOC.md.
package veil

import (
	"errors"

	"veil/api"
	"veil/frame"
	"veil/graph"
	"veil/syntax"
)

// Check tells the types of a view's columns (P3).
func Check(schema string, view string) (string, api.Errno) {
	tables, err := syntax.ReadSchema(schema)
	if err != nil {
		return "", errnoOf(err)
	}
	read, err := syntax.ReadView(tables, view)
	if err != nil {
		return "", errnoOf(err)
	}
	return syntax.TypeWords(read.Types), api.OK
}

// CheckLaw tells whether a text is rules (P4).
func CheckLaw(schema string, law string) api.Errno {
	tables, err := syntax.ReadSchema(schema)
	if err != nil {
		return errnoOf(err)
	}
	_, err = syntax.ReadLaw(tables, law)
	return errnoOf(err)
}

// errnoOf asks the fault that lies in an error, however deep, what it is answered with: only where it was found is it known which text was read.
func errnoOf(err error) api.Errno {
	var fault *syntax.Fault
	if errors.As(err, &fault) {
		return fault.Errno
	}
	return api.OK
}

// Pack makes a frame of a payload (P5).
func Pack(payload string) string { return frame.Pack(payload) }

// Unpack takes frames apart (P5).
func Unpack(bytes string) ([]string, int, bool) { return frame.Unpack(bytes) }

// Server has tables, rules, and sessions.
type Server struct {
	schema   syntax.Schema
	room     int
	graph    *graph.Graph
	sessions [api.MaxSessions]*session // nil: not open
}

// New makes a server (P6).
func New(schema string, share bool, room int) (*Server, api.Errno) {
	tables, err := syntax.ReadSchema(schema)
	if err != nil {
		return nil, errnoOf(err)
	}
	if room < 1 || room > api.MaxRoom {
		return nil, api.ErrRoom
	}
	return &Server{schema: tables, room: room, graph: graph.New(tables, share)}, api.OK
}

// Open opens a session (P7).
func (s *Server) Open(session int, who string) api.Errno {
	if !isSession(session) || s.sessions[session] != nil {
		return api.ErrSession
	}
	if !syntax.IsName(who) {
		return api.ErrName
	}
	s.sessions[session] = newSession(who)
	return api.OK
}

// Close closes a session (P7).
func (s *Server) Close(session int) api.Errno {
	closed := s.open(session)
	if closed == nil {
		return api.ErrSession
	}
	closed.endAll()
	s.sessions[session] = nil
	return api.OK
}

// Feed hands a session's bytes in (P8).
func (s *Server) Feed(session int, bytes string) api.Errno {
	from := s.open(session)
	if from == nil {
		return api.ErrSession
	}
	requests, broken := from.take(bytes)
	for _, request := range requests {
		s.answer(from, request)
	}
	if broken {
		from.breakOff()
	}
	return api.OK
}

// Drain takes a session's frames out (P9).
func (s *Server) Drain(session int, most int) (string, api.Errno) {
	to := s.open(session)
	if to == nil {
		return "", api.ErrSession
	}
	return to.drain(most), api.OK
}

// Nodes tells how many nodes there are (P15).
func (s *Server) Nodes() int { return s.graph.Nodes() }

func isSession(number int) bool { return number >= 0 && number < api.MaxSessions }

// open is the session of that number, or nil if it is not open.
func (s *Server) open(number int) *session {
	if !isSession(number) {
		return nil
	}
	return s.sessions[number]
}
