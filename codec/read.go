package codec

import (
	"dunnage/api"
	"dunnage/wire"
)

// reader hands out numbers, one after the other. What isn't of the form it
// keeps in mind and goes on, so that who reads asks once, at the end.
type reader struct {
	left  []uint64
	fault bool
}

// open begins to read. So many first numbers there must be, and of the
// foremost of them none may be above its most: what is read from there on is
// short, whatever the bytes are.
func open(b []byte, first int, most ...uint64) (*reader, error) {
	l, err := wire.All(b)
	if err != nil {
		return nil, err
	}
	if len(l) < first {
		return nil, api.ErrForm
	}
	for i, m := range most {
		if l[i] > m {
			return nil, api.ErrLarge
		}
	}
	return &reader{left: l}, nil
}

// wellFormed tells whether all that was read was of the form, with nothing
// left behind it.
func (r *reader) wellFormed() bool { return !r.fault && len(r.left) == 0 }

// next is the next number, whatever it is.
func (r *reader) next() uint64 {
	if len(r.left) == 0 {
		r.fault = true
		return 0
	}
	n := r.left[0]
	r.left = r.left[1:]
	return n
}

// number is the next one that isn't one of a Vec's.
func (r *reader) number() int {
	n := r.next()
	if n > api.MaxId {
		r.fault = true
		return 0
	}
	return int(n)
}

func (r *reader) truth() bool {
	n := r.next()
	if n > 1 {
		r.fault = true
	}
	return n == 1
}

func (r *reader) amount() api.Vec {
	var v api.Vec
	for i := range v {
		v[i] = r.next()
	}
	return v
}

// list reads so many.
func list[T any](r *reader, many int, one func(*reader) T) []T {
	var l []T
	for range many {
		l = append(l, one(r))
	}
	return l
}

func readNode(r *reader) api.Node {
	var n api.Node
	n.Id = r.number()
	n.Zone = r.number()
	n.Cap = r.amount()
	n.Held = r.amount()
	return n
}

func readLoad(r *reader) api.Load {
	var l api.Load
	l.Id = r.number()
	l.Apart = r.truth()
	l.Skew = r.number()
	l.Min = r.number()
	l.Max = r.number()
	return l
}

func readPod(r *reader) api.Pod {
	var p api.Pod
	p.Id = r.number()
	p.Load = r.number()
	p.Prio = r.number()
	p.Req = r.amount()
	p.Node = r.number()
	return p
}

func readWant(r *reader) api.Want {
	var w api.Want
	w.Pod = r.number()
	w.Req = r.amount()
	w.Stay = r.truth()
	return w
}

func readMove(r *reader) api.Move {
	var m api.Move
	m.Kind = r.number()
	m.Pod = r.number()
	m.Node = r.number()
	m.Over = r.number()
	return m
}
