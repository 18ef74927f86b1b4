package syntax

import (
	"strconv"

	"veil/api"
)

// Fault is what is wrong with a text, made where it is found. Every error of this package is one, or wraps one.
type Fault struct {
	Errno api.Errno // what the call that was given the text answers
	What  string
}

func (f *Fault) Error() string { return f.What }

// Place wraps an error by where it stands in a text: in the Number-th Part of it.
type Place struct {
	Part   string
	Number int // from 1 on
	Err    error
}

func (p *Place) Error() string {
	return p.Part + " " + strconv.Itoa(p.Number) + ": " + p.Err.Error()
}

func (p *Place) Unwrap() error { return p.Err }
