package store

import (
	"purser/api"
	"purser/server"
	"purser/wire"
)

// A record begins with one of these bytes: behind the first one a request's bytes stand, behind the other one nothing.
const (
	askMark  = 1
	tickMark = 2
)

// act is what a store is to do: a request's bytes, whose kind is 0 if they are none, or a tick.
type act struct {
	bytes  []byte
	kind   int
	isTick bool
	// record keeps what is done; what changes nothing has none.
	record []byte
}

// ask answers the act of a request's bytes.
func ask(b []byte) act {
	// Of bytes that are no request's there is a request of the kind 0.
	r, _ := wire.Asked(b)
	x := act{bytes: b, kind: r.Kind}
	if wire.Changes(r.Kind) {
		x.record = append([]byte{askMark}, b...)
	}
	return x
}

// tick answers the act of a step of time.
func tick() act {
	return act{isTick: true, record: []byte{tickMark}}
}

// actsOf answers what a batch is to do: nothing stands for a tick.
func actsOf(l [][]byte) []act {
	var acts []act
	for _, b := range l {
		if len(b) == 0 {
			acts = append(acts, tick())
		} else {
			acts = append(acts, ask(b))
		}
	}
	return acts
}

// recordsOf answers the records of all acts that have one.
func recordsOf(acts []act) [][]byte {
	var group [][]byte
	for _, x := range acts {
		if x.record != nil {
			group = append(group, x.record)
		}
	}
	return group
}

// do lets a server do it, and answers what that tells, and whether it had no error.
func (x act) do(s *server.Server) ([]byte, bool) {
	if x.isTick {
		_, err := s.Tick()
		return x.refuse(err), err == api.OK
	}
	b := s.Do(x.bytes)
	a, err := wire.Told(b)
	return b, err == api.OK && a.Err == api.OK
}

// refuse answers what is told of an error; of a tick OK is told so, too.
func (x act) refuse(err api.Errno) []byte {
	if x.isTick {
		return []byte{byte(err)}
	}
	// An error has bytes with each kind of request.
	b, _ := wire.Tell(wire.Answer{Kind: x.kind, Err: err})
	return b
}

// refuseAll answers what is told of an error to each act.
func refuseAll(acts []act, err api.Errno) [][]byte {
	var answers [][]byte
	for _, x := range acts {
		answers = append(answers, x.refuse(err))
	}
	return answers
}

// redo lets a server do what a record keeps, if it is one.
func redo(s *server.Server, record []byte) bool {
	x, ok := actOf(record)
	if ok {
		x.do(s)
	}
	return ok
}

// actOf answers what a record keeps, if it is one.
func actOf(record []byte) (act, bool) {
	switch {
	case len(record) == 1 && record[0] == tickMark:
		return tick(), true
	case len(record) > 1 && record[0] == askMark:
		x := ask(record[1:])
		return x, x.kind != 0
	}
	return act{}, false
}
