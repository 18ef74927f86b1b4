package veil

import (
	"strconv"

	"veil/api"
	"veil/rows"
	"veil/syntax"
)

// answer does a request of a session (P10), and puts out what comes of it behind the answer.
func (s *Server) answer(from *session, request string) {
	errno := s.do(from, request)
	if errno != api.OK {
		from.answer("no " + strconv.Itoa(int(errno)))
		return
	}
	from.answer("ok")
	s.tellAll()
}

func (s *Server) do(from *session, text string) api.Errno {
	request, err := syntax.ReadRequest(text)
	if err != nil {
		return errnoOf(err)
	}
	switch request.Word {
	case "sub":
		return s.sub(from, request)
	case "end":
		return s.end(from, request)
	}
	if from.who != api.Root {
		return api.ErrDenied
	}
	switch request.Word {
	case "put":
		return s.put(request)
	case "del":
		return s.del(request)
	}
	return s.law(request)
}

func (s *Server) sub(from *session, request syntax.Request) api.Errno {
	if from.subs[request.Number] != nil {
		return api.ErrTaken
	}
	view, err := syntax.ReadView(s.schema, request.Rest)
	if err != nil {
		return errnoOf(err)
	}
	from.subs[request.Number] = &subscription{view: s.graph.View(from.who, view)}
	return api.OK
}

func (s *Server) end(from *session, request syntax.Request) api.Errno {
	if from.subs[request.Number] == nil {
		return api.ErrNone
	}
	from.end(request.Number)
	return api.OK
}

func (s *Server) put(request syntax.Request) api.Errno {
	table, row, errno := s.row(request)
	if errno != api.OK {
		return errno
	}
	if s.graph.Size(table) >= api.MaxRows {
		return api.ErrFull
	}
	s.graph.Change(table, row, 1)
	return api.OK
}

func (s *Server) del(request syntax.Request) api.Errno {
	table, row, errno := s.row(request)
	if errno != api.OK {
		return errno
	}
	if s.graph.Times(table, row) == 0 {
		return api.ErrNone
	}
	s.graph.Change(table, row, -1)
	return api.OK
}

func (s *Server) law(request syntax.Request) api.Errno {
	law, err := request.Law(s.schema)
	if err != nil {
		return errnoOf(err)
	}
	s.graph.Rule(law)
	return api.OK
}

// row finds the table and the row that a request names.
func (s *Server) row(request syntax.Request) (int, rows.Row, api.Errno) {
	table := s.schema.Find(request.Table)
	if table < 0 {
		return 0, "", api.ErrTable
	}
	values, err := syntax.ReadRow(s.schema[table].Types, request.Rest)
	if err != nil {
		return 0, "", errnoOf(err)
	}
	return table, rows.Of(values...), api.OK
}

// tellAll puts out what each subscription is to be told, in one order, whatever order the views came up to date in.
func (s *Server) tellAll() {
	for _, to := range s.sessions {
		if to == nil {
			continue
		}
		for number, sub := range to.subs {
			if sub != nil {
				s.tell(to, number, sub)
			}
		}
	}
}

// tell puts out the frame of a subscription that is new (P11), or whose view is another than before (P12, P13).
func (s *Server) tell(to *session, number int, sub *subscription) {
	if sub.frames == 0 {
		sub.put(to, "snap", number, sub.view.Rows())
		return
	}
	if !sub.view.Changed() {
		return
	}
	if len(sub.waiting) < s.room {
		sub.put(to, "delta", number, sub.view.Change())
		return
	}
	sub.waiting = nil
	sub.put(to, "reset", number, sub.view.Rows())
}

func (sub *subscription) put(to *session, word string, number int, rows string) {
	payload := word + " " + strconv.Itoa(number) + " " + strconv.Itoa(sub.frames) + rows
	sub.waiting.add(to.next(), payload)
	sub.frames++
}
