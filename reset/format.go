package reset

import (
	"flume/api"
	"flume/octet"
)

// Kinds of the parameters.
const (
	kindRequest  = 13
	kindResponse = 16
)

// Results of a request.
const (
	performed   = 1
	wrongNumber = 5
	notYet      = 6
)

// request to reset streams, or with none of them all.
type request struct {
	number  uint32
	theirs  uint32 // the last request of the peer that was performed
	last    uint32 // the last Tsn that was given before it
	streams []uint16
}

// response to a request.
type response struct {
	number uint32 // of the request
	result uint32
}

// param of a request.
func (q *request) param() api.Param {
	w := &octet.Writer{}
	w.U32(q.number)
	w.U32(q.theirs)
	w.U32(q.last)
	for _, s := range q.streams {
		w.U16(s)
	}
	return api.Param{Kind: kindRequest, Value: w.Out()}
}

// param of a response.
func (a response) param() api.Param {
	w := &octet.Writer{}
	w.U32(a.number)
	w.U32(a.result)
	return api.Param{Kind: kindResponse, Value: w.Out()}
}

// readRequest from a parameter's value: is it one?
func readRequest(value []byte) (request, bool) {
	r := octet.NewReader(value)
	q := request{number: r.U32(), theirs: r.U32(), last: r.U32()}
	for r.Left() > 0 {
		s := r.U16()
		if n := len(q.streams); n > 0 && s <= q.streams[n-1] {
			return request{}, false
		}
		q.streams = append(q.streams, s)
	}
	return q, r.End() == api.OK
}

// readResponse from a parameter's value: is it one?
func readResponse(value []byte) (response, bool) {
	r := octet.NewReader(value)
	a := response{number: r.U32(), result: r.U32()}
	known := a.result == performed || a.result == wrongNumber || a.result == notYet
	return a, known && r.End() == api.OK
}
