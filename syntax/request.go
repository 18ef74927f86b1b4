package syntax

import (
	"strings"

	"veil/api"
)

// Request is what a session asks for, as far as it is read ahead of who asks being known to be allowed to.
type Request struct {
	Word   string // sub, end, put, del or law
	Number int    // sub, end: of the subscription
	Table  string // put, del: the word that is to be a table's name
	Rest   string // sub: the view; put, del: the values; law: the rules
	Bare   bool   // law: nothing is behind it, not even a blank
}

// ReadRequest reads a request.
func ReadRequest(text string) (Request, error) {
	word, rest, more := strings.Cut(text, " ")
	switch word {
	case "sub", "end":
		return readNumbered(word, rest)
	case "put", "del":
		table, values, _ := strings.Cut(rest, " ")
		return Request{Word: word, Table: table, Rest: values}, nil
	case "law":
		return Request{Word: word, Rest: rest, Bare: !more}, nil
	}
	return Request{}, requestFault(1, "no request")
}

func readNumbered(word, text string) (Request, error) {
	number, rest, more := strings.Cut(text, " ")
	if len(number) != 1 || number[0] < '0' || number[0] >= '0'+api.MaxSubs {
		return Request{}, requestFault(2, "no number of a subscription")
	}
	if word == "end" && more {
		return Request{}, requestFault(3, "something behind the end")
	}
	return Request{Word: word, Number: int(number[0] - '0'), Rest: rest}, nil
}

func requestFault(word int, what string) error {
	return &Place{Part: "word", Number: word, Err: &Fault{Errno: api.ErrRequest, What: what}}
}

// Law reads the rules of a request. For no rules nothing may be behind its word: a blank alone is no law.
func (r Request) Law(schema Schema) (Law, error) {
	if r.Rest == "" && !r.Bare {
		return nil, lawFault("a blank, and no rules")
	}
	return ReadLaw(schema, r.Rest)
}

// ReadRow reads a row of these types. One of another number of words is refused ahead of being taken apart, as a text may be of any size.
func ReadRow(types []Type, text string) ([]Value, error) {
	if strings.Count(text, " ")+1 != len(types) {
		return nil, rowFault("too few values, or too many")
	}
	row := make([]Value, len(types))
	for i, word := range strings.Split(text, " ") {
		value, ok := readValue(word)
		if !ok || value.Type != types[i] {
			return nil, &Place{Part: "value", Number: i + 1, Err: rowFault("no value of the column's type")}
		}
		row[i] = value
	}
	return row, nil
}

func rowFault(what string) error {
	return &Fault{Errno: api.ErrRow, What: what}
}
