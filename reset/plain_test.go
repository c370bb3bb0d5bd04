package reset

import (
	"math/rand"
	"slices"
	"testing"

	"flume/api"
)

// plain engine: each call does what the chapter says, word by word, on lists.
type plain struct {
	next, expected uint32
	wanted         []uint16
	open           bool
	request        api.Param
	streams        []uint16 // of the open request
}

func (p *plain) busy(s uint16) bool {
	return slices.Contains(p.wanted, s) || p.open && slices.Contains(p.streams, s)
}

func (p *plain) want(streams ...uint16) {
	for _, s := range streams {
		if !p.busy(s) {
			p.wanted = append(p.wanted, s)
		}
	}
	slices.Sort(p.wanted)
}

func (p *plain) opening(last uint32, drained []uint16) (api.Param, bool) {
	isDrained := func(s uint16) bool { return slices.Contains(drained, s) }
	if p.open || !slices.ContainsFunc(p.wanted, isDrained) {
		return api.Param{}, false
	}
	p.streams = nil
	for _, s := range p.wanted {
		if isDrained(s) {
			p.streams = append(p.streams, s)
		}
	}
	p.wanted = slices.DeleteFunc(p.wanted, isDrained)
	p.open, p.request = true, asking(p.next, p.expected-1, last, p.streams...)
	return p.request, true
}

func (p *plain) again() (api.Param, bool) {
	if !p.open {
		return api.Param{}, false
	}
	return p.request, true
}

// ask is what comes of a request.
func (p *plain) ask(number, last, mark uint32, streams []uint16) api.Heard {
	switch {
	case number != p.expected && number != p.expected-1:
		return replied(number, 5)
	case number == p.expected-1:
		return replied(number, 1)
	case last-mark >= 1 && last-mark <= 1<<31-1:
		return replied(number, 6)
	}
	p.expected++
	h := replied(number, 1, streams...)
	h.All = len(streams) == 0
	return h
}

// told is what comes of a response.
func (p *plain) told(number, result uint32) api.Heard {
	if !p.open || number != p.next || result != 1 {
		return api.Heard{}
	}
	p.open = false
	p.next++
	return done(p.streams...)
}

// some streams of chance, of few.
func some(r *rand.Rand) []uint16 {
	var streams []uint16
	for range r.Intn(5) {
		s := uint16(r.Intn(8))
		if r.Intn(4) == 0 {
			s = 65535 - s
		}
		streams = append(streams, s)
	}
	return streams
}

// sometime: a call of chance on both engines.
func sometime(t *testing.T, r *rand.Rand, e *Engine, p *plain) {
	t.Helper()
	streams, near := some(r), uint32(r.Intn(5)-2)
	switch r.Intn(6) {
	case 0, 1:
		e.Want(streams...)
		p.want(streams...)
	case 2:
		got, ok := e.Open(near, streams)
		want, wantOk := p.opening(near, streams)
		if ok != wantOk || !sameParam(got, want) {
			t.Errorf("Open(%d, %d) = %v, %v, want %v, %v", near, streams, got, ok, want, wantOk)
		}
	case 3, 4:
		slices.Sort(streams)
		streams = slices.Compact(streams)
		number, mark := p.expected+uint32(r.Intn(4)-2), near+uint32(r.Intn(3)-1)
		hears(t, e, asking(number, r.Uint32(), near, streams...), mark, p.ask(number, near, mark, streams))
	default:
		number, result := p.next+uint32(r.Intn(4)/2), []uint32{1, 1, 5, 6}[r.Intn(4)]
		hears(t, e, answer(number, result), r.Uint32(), p.told(number, result))
	}
}

// P18.1, P18.2: runs of calls, held against the chapter's words.
func TestRuns(t *testing.T) {
	r := rand.New(rand.NewSource(18))
	for run := range 500 {
		mine, theirs := uint32(r.Intn(20)-10), r.Uint32()
		e, p := New(mine, theirs), &plain{next: mine, expected: theirs}
		for range 300 {
			sometime(t, r, e, p)
			wants(t, e, p.wanted...)
			got, ok := e.Again()
			if want, wantOk := p.again(); ok != wantOk || !sameParam(got, want) {
				t.Errorf("Again = %v, %v, want %v, %v", got, ok, want, wantOk)
			}
			for _, s := range []uint16{0, 1, 2, 3, 4, 5, 6, 7, 8, 65528, 65534, 65535} {
				if e.Busy(s) != p.busy(s) {
					t.Errorf("Busy(%d) = %v", s, e.Busy(s))
				}
			}
		}
		if t.Failed() {
			t.Fatalf("run %d", run)
		}
	}
}
