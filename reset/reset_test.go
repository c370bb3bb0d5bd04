package reset

import (
	"bytes"
	"fmt"
	"math"
	"slices"
	"strings"
	"testing"

	"flume/api"
	"flume/param"
)

const top = math.MaxUint32

// numbers at which something goes round, or halves meet, and some at which nothing does.
var numbers = []uint32{0, 1, 2, 100, 65535, 65536, 1<<31 - 1, 1 << 31, 1<<31 + 1, top - 1, top}

// bytesOf numbers: of each uint32 four, of each uint16 two, most significant first, and of a text its own.
func bytesOf(things ...any) []byte {
	var b []byte
	for _, x := range things {
		switch v := x.(type) {
		case uint32:
			b = append(b, byte(v>>24), byte(v>>16), byte(v>>8), byte(v))
		case uint16:
			b = append(b, byte(v>>8), byte(v))
		case string:
			b = append(b, v...)
		}
	}
	return b
}

// asking is a request as the chapter writes it.
func asking(number, theirs, last uint32, streams ...uint16) api.Param {
	b := bytesOf(number, theirs, last)
	for _, s := range streams {
		b = append(b, bytesOf(s)...)
	}
	return api.Param{Kind: 13, Value: b}
}

// answer is a response as the chapter writes it.
func answer(number, result uint32) api.Param {
	return api.Param{Kind: 16, Value: bytesOf(number, result)}
}

func sameParam(a, b api.Param) bool {
	return a.Kind == b.Kind && bytes.Equal(a.Value, b.Value)
}

// all streams that there may be.
func all() []uint16 {
	streams := make([]uint16, 65536)
	for i := range streams {
		streams[i] = uint16(i)
	}
	return streams
}

// wants: are just these wanted? It is asked twice, as asking changes nothing.
func wants(t *testing.T, e *Engine, want ...uint16) {
	t.Helper()
	for range 2 {
		if got := e.Wanted(); !slices.Equal(got, want) {
			t.Errorf("Wanted = %d, want %d", got, want)
		}
	}
}

// busy: of some streams, those around the edges and all that are given, are just these busy?
func busy(t *testing.T, e *Engine, want ...uint16) {
	t.Helper()
	for _, s := range append([]uint16{0, 1, 2, 3, 4, 5, 255, 256, 1023, 1024, 32767, 32768, 65534, 65535}, want...) {
		if got := e.Busy(s); got != slices.Contains(want, s) {
			t.Errorf("Busy(%d) = %v", s, got)
		}
	}
}

// opens: does Open give this request, and Again the same?
func opens(t *testing.T, e *Engine, last uint32, drained []uint16, want api.Param) {
	t.Helper()
	if got, ok := e.Open(last, drained); !ok || !sameParam(got, want) {
		t.Errorf("Open(%d, %d) = %v, %v, want %v", last, drained, got, ok, want)
	}
	isOpen(t, e, want)
}

// opensNone: does Open give none?
func opensNone(t *testing.T, e *Engine, last uint32, drained ...uint16) {
	t.Helper()
	if got, ok := e.Open(last, drained); ok || got.Kind != 0 || len(got.Value) != 0 {
		t.Errorf("Open(%d, %d) = %v, %v, want none", last, drained, got, ok)
	}
}

// isOpen: is this the open request? It is asked twice, as asking changes nothing.
func isOpen(t *testing.T, e *Engine, want api.Param) {
	t.Helper()
	for range 2 {
		if got, ok := e.Again(); !ok || !sameParam(got, want) {
			t.Errorf("Again = %v, %v, want %v", got, ok, want)
		}
	}
}

// noneOpen: is there no open request?
func noneOpen(t *testing.T, e *Engine) {
	t.Helper()
	for range 2 {
		if got, ok := e.Again(); ok || got.Kind != 0 || len(got.Value) != 0 {
			t.Errorf("Again = %v, %v, want none", got, ok)
		}
	}
}

// heard is what comes of a parameter, in words: the result of the reply, In, All, Done.
func heard(h api.Heard) string {
	var words []string
	if h.Reply != nil {
		words = append(words, fmt.Sprint("reply ", h.Reply.Kind, h.Reply.Value))
	}
	if len(h.In) > 0 {
		words = append(words, fmt.Sprint("in ", h.In))
	}
	if h.All {
		words = append(words, "all")
	}
	if len(h.Done) > 0 {
		words = append(words, fmt.Sprint("done ", h.Done))
	}
	return strings.Join(words, ", ")
}

// hears: does that come of a parameter?
func hears(t *testing.T, e *Engine, p api.Param, mark uint32, want api.Heard) {
	t.Helper()
	if got, err := e.Hear(p, mark); err != api.OK || heard(got) != heard(want) {
		t.Errorf("Hear(%v, %d) = %s; %v, want %s", p, mark, heard(got), err, heard(want))
	}
}

// refuses: is it that error, with nothing beside it?
func refuses(t *testing.T, e *Engine, p api.Param, want api.Errno) {
	t.Helper()
	for _, mark := range []uint32{0, 50, 1 << 31, top} {
		if got, err := e.Hear(p, mark); err != want || heard(got) != "" {
			t.Errorf("Hear(%v, %d) = %s; %v, want %v", p, mark, heard(got), err, want)
		}
	}
}

// replied: this response, and streams that begin anew.
func replied(number, result uint32, in ...uint16) api.Heard {
	a := answer(number, result)
	return api.Heard{Reply: &a, In: in}
}

func done(streams ...uint16) api.Heard {
	return api.Heard{Done: streams}
}

// The chapter's examples

func TestExample(t *testing.T) {
	e := New(100, 200)
	e.Want(3, 1)
	q := asking(100, 199, 50, 1)
	opens(t, e, 50, []uint16{1, 2}, q)
	wants(t, e, 3)
	o := New(200, 100)
	hears(t, o, q, 49, replied(100, 6))
	hears(t, o, q, 50, replied(100, 1, 1))
	hears(t, o, q, 50, replied(100, 1))
	hears(t, e, answer(100, 1), 0, done(1))
}

// Format

// Byte for byte: each number in its place, the most significant byte first.
func TestFormat(t *testing.T) {
	e := New(0x01020304, 0x05060709)
	e.Want(0x0d0e, 0x0f10, 0xfefd)
	p, ok := e.Open(0x090a0b0c, []uint16{0xfefd, 0x0f10, 0x0d0e})
	want := []byte{1, 2, 3, 4, 5, 6, 7, 8, 9, 10, 11, 12, 13, 14, 15, 16, 0xfe, 0xfd}
	if !ok || p.Kind != 13 || !bytes.Equal(p.Value, want) {
		t.Errorf("Open = %v, %v", p, ok)
	}
	o := New(0x05060708, 0x01020304)
	h, err := o.Hear(p, 0x090a0b0c)
	if err != api.OK || !slices.Equal(h.In, []uint16{0x0d0e, 0x0f10, 0xfefd}) || h.All || len(h.Done) != 0 {
		t.Errorf("Hear = %s; %v", heard(h), err)
	}
	if h.Reply.Kind != 16 || !bytes.Equal(h.Reply.Value, []byte{1, 2, 3, 4, 0, 0, 0, 1}) {
		t.Errorf("Reply = %v", *h.Reply)
	}
	hears(t, e, *h.Reply, 0, done(0x0d0e, 0x0f10, 0xfefd))
}

// Requests and responses are parameters as layer 5 writes and reads them.
func TestThroughParam(t *testing.T) {
	for n := range 10 {
		e, o := New(7, 9), New(9, 7)
		streams := all()[:n+1]
		e.Want(streams...)
		q, _ := e.Open(3, streams)
		for _, x := range []struct {
			p    api.Param
			to   *Engine
			want api.Heard
		}{{q, o, replied(7, 1, streams...)}, {answer(7, 1), e, done(streams...)}} {
			b, err := param.Put(x.p)
			ps, err2 := param.Get(b)
			if err != api.OK || err2 != api.OK || len(ps) != 1 {
				t.Fatalf("%v: %v, %v", x.p, err, err2)
			}
			hears(t, x.to, ps[0], 3, x.want)
		}
	}
}

// P18.1: New, Want, Wanted, Busy

func TestNew(t *testing.T) {
	for _, mine := range numbers {
		for _, theirs := range numbers {
			e := New(mine, theirs)
			wants(t, e)
			busy(t, e)
			noneOpen(t, e)
			opensNone(t, e, 0)
			opensNone(t, e, 0, all()...)
			hears(t, e, answer(mine, 1), 0, api.Heard{})
			hears(t, e, asking(theirs, mine-1, 5, 8), 5, replied(theirs, 1, 8))
			e.Want(4)
			opens(t, e, 9, []uint16{4}, asking(mine, theirs, 9, 4))
		}
	}
}

func TestWant(t *testing.T) {
	e := New(100, 200)
	e.Want()
	wants(t, e)
	e.Want(3, 1, 3)
	wants(t, e, 1, 3)
	busy(t, e, 1, 3)
	e.Want(1)
	e.Want(65535, 0, 256, 2)
	wants(t, e, 0, 1, 2, 3, 256, 65535)
	busy(t, e, 0, 1, 2, 3, 256, 65535)
	noneOpen(t, e)
}

// Those of the open request are not wanted a second time; when it is done, they may be.
func TestWantOfOpen(t *testing.T) {
	e := New(100, 200)
	e.Want(1, 3, 5, 65535)
	opens(t, e, 50, []uint16{5, 65535, 1}, asking(100, 199, 50, 1, 5, 65535))
	wants(t, e, 3)
	busy(t, e, 1, 3, 5, 65535)
	e.Want(1, 4, 5, 3, 65535, 2)
	wants(t, e, 2, 3, 4)
	busy(t, e, 1, 2, 3, 4, 5, 65535)
	hears(t, e, answer(100, 1), 0, done(1, 5, 65535))
	wants(t, e, 2, 3, 4)
	busy(t, e, 2, 3, 4)
	e.Want(5, 1)
	wants(t, e, 1, 2, 3, 4, 5)
	busy(t, e, 1, 2, 3, 4, 5)
}

func TestWantAll(t *testing.T) {
	e := New(100, 200)
	every := all()
	for i := range every {
		e.Want(every[i*7919%65536])
	}
	e.Want(every...)
	wants(t, e, every...)
	for _, s := range every {
		if !e.Busy(s) {
			t.Fatalf("Busy(%d) = false", s)
		}
	}
	q := asking(100, 199, 50, every...)
	opens(t, e, 50, every, q)
	wants(t, e)
	for _, s := range every {
		if !e.Busy(s) {
			t.Fatalf("Busy(%d) = false", s)
		}
	}
	e.Want(every...)
	wants(t, e)
	hears(t, New(200, 100), q, 50, replied(100, 1, every...))
	hears(t, e, answer(100, 1), 50, done(every...))
	busy(t, e)
}

// P18.1: Open, Again

// Those that are both wanted and drained, in ascending order, each once; the others stay wanted.
func TestOpen(t *testing.T) {
	for _, x := range []struct{ want, drained, streams, left []uint16 }{
		{[]uint16{1}, []uint16{1}, []uint16{1}, nil},
		{[]uint16{0}, []uint16{0}, []uint16{0}, nil},
		{[]uint16{65535, 0}, []uint16{0, 65535}, []uint16{0, 65535}, nil},
		{[]uint16{3, 1}, []uint16{1, 2}, []uint16{1}, []uint16{3}},
		{[]uint16{3, 1}, []uint16{2, 3}, []uint16{3}, []uint16{1}},
		{[]uint16{1, 2, 3}, []uint16{3, 2, 1}, []uint16{1, 2, 3}, nil},
		{[]uint16{1, 2, 3}, []uint16{3, 3, 1, 3, 1}, []uint16{1, 3}, []uint16{2}},
		{[]uint16{256, 255, 1, 512}, []uint16{512, 1, 256}, []uint16{1, 256, 512}, []uint16{255}},
		{[]uint16{40000, 30000, 5}, []uint16{40000, 5}, []uint16{5, 40000}, []uint16{30000}},
		{[]uint16{7, 9}, all(), []uint16{7, 9}, nil},
	} {
		e := New(100, 200)
		e.Want(x.want...)
		opens(t, e, 50, x.drained, asking(100, 199, 50, x.streams...))
		wants(t, e, x.left...)
		busy(t, e, append(slices.Clone(x.streams), x.left...)...)
	}
}

// Without a wanted stream that is drained there is no request, and all stays as it was.
func TestOpenNone(t *testing.T) {
	e := New(100, 200)
	opensNone(t, e, 50, 1, 2)
	e.Want(1, 3)
	opensNone(t, e, 50)
	opensNone(t, e, 50, 2, 4, 0)
	wants(t, e, 1, 3)
	busy(t, e, 1, 3)
	noneOpen(t, e)
	opens(t, e, 51, []uint16{3}, asking(100, 199, 51, 3))
}

// While one is open there is no other, whatever is drained, and what is wanted stays so.
func TestOpenOneAtOnce(t *testing.T) {
	e := New(100, 200)
	e.Want(1, 3)
	q := asking(100, 199, 50, 1)
	opens(t, e, 50, []uint16{1}, q)
	opensNone(t, e, 60, 3)
	opensNone(t, e, 60, 1)
	opensNone(t, e, 60, 1, 3)
	e.Want(4)
	opensNone(t, e, 60, all()...)
	opensNone(t, e, 60)
	isOpen(t, e, q)
	wants(t, e, 3, 4)
	busy(t, e, 1, 3, 4)
	hears(t, e, answer(100, 1), 0, done(1))
	opens(t, e, 70, []uint16{4, 3}, asking(101, 199, 70, 3, 4))
}

// A request's number is the next one: it goes on when one is done, and goes round.
func TestNumbersGoOn(t *testing.T) {
	for _, mine := range numbers {
		e := New(mine, 200)
		for i := range uint32(5) {
			s := uint16(i % 2)
			e.Want(s)
			opens(t, e, i, []uint16{s}, asking(mine+i, 199, i, s))
			hears(t, e, answer(mine+i, 1), 0, done(s))
			noneOpen(t, e)
		}
	}
}

// A request tells the last one of the peer that was performed when it was opened, also when it is sent again.
func TestRequestTellsTheirs(t *testing.T) {
	for _, theirs := range numbers {
		e := New(100, theirs)
		hears(t, e, asking(theirs, 0, 5, 2), 5, replied(theirs, 1, 2))
		e.Want(1, 2)
		q := asking(100, theirs, 50, 1)
		opens(t, e, 50, []uint16{1}, q)
		hears(t, e, asking(theirs+1, 0, 5, 3), 5, replied(theirs+1, 1, 3))
		isOpen(t, e, q)
		hears(t, e, answer(100, 1), 0, done(1))
		opens(t, e, 51, []uint16{2}, asking(101, theirs+1, 51, 2))
	}
	e := New(100, 0)
	e.Want(1)
	opens(t, e, 50, []uint16{1}, asking(100, top, 50, 1))
}

// What was not performed is not told as if it had been.
func TestRequestTellsNoOthers(t *testing.T) {
	e := New(100, 200)
	hears(t, e, asking(200, 99, 50, 2), 49, replied(200, 6))
	hears(t, e, asking(201, 99, 50, 2), 50, replied(201, 5))
	hears(t, e, asking(199, 99, 50, 2), 50, replied(199, 1))
	e.Want(1)
	opens(t, e, 50, []uint16{1}, asking(100, 199, 50, 1))
}

// P18.2: errors

func TestOtherKinds(t *testing.T) {
	e := New(100, 200)
	e.Want(1)
	q := asking(100, 199, 50, 1)
	opens(t, e, 50, []uint16{1}, q)
	for kind := range 65536 {
		if kind == 13 || kind == 16 {
			continue
		}
		for _, value := range [][]byte{nil, answer(100, 1).Value, asking(200, 99, 50, 7).Value} {
			if h, err := e.Hear(api.Param{Kind: uint16(kind), Value: value}, 50); err != api.ErrKind || heard(h) != "" {
				t.Fatalf("kind %d: Hear = %s; %v", kind, heard(h), err)
			}
		}
	}
	isOpen(t, e, q)
	hears(t, e, asking(200, 99, 50, 7), 50, replied(200, 1, 7))
	hears(t, e, answer(100, 1), 50, done(1))
}

// Each length: a request has twelve bytes, and two a stream.
func TestRequestLengths(t *testing.T) {
	whole := asking(200, 99, 50, 1, 2, 3, 4, 5, 6, 7, 8).Value
	for n := range len(whole) + 1 {
		e := New(100, 200)
		p := api.Param{Kind: 13, Value: whole[:n]}
		switch {
		case n < 12 || n%2 == 1:
			refuses(t, e, p, api.ErrForm)
			hears(t, e, asking(200, 99, 50, 9), 50, replied(200, 1, 9))
		case n == 12:
			h := replied(200, 1)
			h.All = true
			hears(t, e, p, 50, h)
		default:
			hears(t, e, p, 50, replied(200, 1, []uint16{1, 2, 3, 4, 5, 6, 7, 8}[:(n-12)/2]...))
		}
	}
}

// Streams that do not ascend are refused whatever the number and the mark, also those of a request that would not be performed.
func TestRequestNotAscending(t *testing.T) {
	for _, streams := range [][]uint16{
		{1, 1}, {0, 0}, {2, 1}, {1, 0}, {65535, 65535}, {65535, 0}, {256, 255}, {256, 1}, {1, 3, 2}, {1, 2, 2}, {2, 1, 3},
		{1, 1, 2}, {1, 2, 3, 4, 4}, {1, 2, 3, 4, 0}, {32768, 32767}, append(all(), 0), append(all(), 65535),
	} {
		e := New(100, 200)
		for _, number := range []uint32{198, 199, 200, 201} {
			refuses(t, e, asking(number, 99, 50, streams...), api.ErrForm)
			refuses(t, e, asking(number, 99, 51, streams...), api.ErrForm)
		}
		hears(t, e, asking(200, 99, 50, 9), 50, replied(200, 1, 9))
	}
	for _, streams := range [][]uint16{{0}, {65535}, {0, 1}, {0, 65535}, {65534, 65535}, {255, 256}, {32767, 32768}, {1, 256, 257, 40000}} {
		hears(t, New(100, 200), asking(200, 99, 50, streams...), 50, replied(200, 1, streams...))
	}
}

// Each length: a response has eight bytes.
func TestResponseLengths(t *testing.T) {
	whole := bytesOf(answer(100, 1).Value, uint32(100), uint32(1), uint32(1), uint32(1), uint32(1))
	whole = append(answer(100, 1).Value, whole...)
	for n := range len(whole) + 1 {
		e := New(100, 200)
		e.Want(1)
		q := asking(100, 199, 50, 1)
		opens(t, e, 50, []uint16{1}, q)
		p := api.Param{Kind: 16, Value: whole[:n]}
		if n == 8 {
			hears(t, e, p, 50, done(1))
			continue
		}
		refuses(t, e, p, api.ErrForm)
		isOpen(t, e, q)
	}
}

// A result other than 1, 5 and 6 is refused, whatever the number.
func TestResponseResults(t *testing.T) {
	results := []uint32{0x100, 0x101, 0x10000, 0x1000000, 0x01000001, 0x05000000, 0x00010001, top, top - 1, 1 << 31, 1<<31 + 1}
	for r := range uint32(300) {
		results = append(results, r)
	}
	e := New(100, 200)
	refuses(t, e, answer(100, 0), api.ErrForm)
	e.Want(1)
	q := asking(100, 199, 50, 1)
	opens(t, e, 50, []uint16{1}, q)
	for _, r := range results {
		if r == 1 || r == 5 || r == 6 {
			continue
		}
		for _, number := range []uint32{99, 100, 101} {
			refuses(t, e, answer(number, r), api.ErrForm)
		}
	}
	isOpen(t, e, q)
	hears(t, e, answer(100, 1), 0, done(1))
}

// P18.2: requests

// From the number expected on: that one is performed, that before it was, all others are wrong.
func TestHearRequestNumbers(t *testing.T) {
	for _, theirs := range numbers {
		for _, ahead := range append([]uint32{3, 4, top - 2}, numbers...) {
			for _, mark := range []uint32{49, 50} {
				e := New(100, theirs)
				q := asking(theirs+ahead, 99, 50, 1, 4)
				switch {
				case ahead == top:
					hears(t, e, q, mark, replied(theirs+ahead, 1))
				case ahead != 0:
					hears(t, e, q, mark, replied(theirs+ahead, 5))
				case mark == 49:
					hears(t, e, q, mark, replied(theirs, 6))
				default:
					hears(t, e, q, mark, replied(theirs, 1, 1, 4))
					hears(t, e, q, mark, replied(theirs, 1))
					theirs := theirs + 1
					hears(t, e, asking(theirs, 99, 50, 2), mark, replied(theirs, 1, 2))
					hears(t, e, q, mark, replied(theirs-1, 5))
					continue
				}
				// Whatever was replied, the expected number is still the same.
				hears(t, e, asking(theirs, 99, 50, 2), 50, replied(theirs, 1, 2))
			}
		}
	}
}

// From the mark on: a last Tsn that is after it is not there yet.
func TestHearRequestMarks(t *testing.T) {
	for _, mark := range numbers {
		for _, ahead := range append([]uint32{3, top - 2}, numbers...) {
			after := ahead >= 1 && ahead <= 1<<31-1
			e := New(100, 200)
			q := asking(200, 99, mark+ahead, 6)
			if after {
				hears(t, e, q, mark, replied(200, 6))
				hears(t, e, q, mark+ahead-1, replied(200, 6))
				hears(t, e, q, mark+ahead, replied(200, 1, 6))
			} else {
				hears(t, e, q, mark, replied(200, 1, 6))
			}
			hears(t, e, q, mark, replied(200, 1))
		}
	}
}

// What was performed is told so though the mark seems to be behind, and what is wrong is so with any mark.
func TestHearRequestNumberFirst(t *testing.T) {
	e := New(100, 200)
	hears(t, e, asking(199, 99, 70, 6), 50, replied(199, 1))
	hears(t, e, asking(198, 99, 70, 6), 50, replied(198, 5))
	hears(t, e, asking(201, 99, 70, 6), 50, replied(201, 5))
	hears(t, e, asking(200, 99, 50, 6), 50, replied(200, 1, 6))
	hears(t, e, asking(200, 99, 70, 6), 50, replied(200, 1))
}

// A request without streams is for all of them, once.
func TestHearRequestForAll(t *testing.T) {
	e := New(100, 200)
	q := asking(200, 99, 50)
	hears(t, e, q, 49, replied(200, 6))
	h := replied(200, 1)
	h.All = true
	hears(t, e, q, 50, h)
	hears(t, e, q, 50, replied(200, 1))
	hears(t, e, asking(202, 99, 50), 50, replied(202, 5))
	hears(t, e, asking(201, 99, 50, 3), 50, replied(201, 1, 3))
}

// What the request tells of its own side is not held against anything.
func TestHearRequestTheirs(t *testing.T) {
	for _, theirs := range append([]uint32{98, 99, 101}, numbers...) {
		hears(t, New(100, 200), asking(200, theirs, 50, 3), 50, replied(200, 1, 3))
	}
}

// The streams of requests that come are not the engine's own: nothing of it changes what is wanted, or open.
func TestHearRequestApart(t *testing.T) {
	e := New(100, 200)
	e.Want(1, 2)
	q := asking(100, 199, 50, 1)
	opens(t, e, 50, []uint16{1}, q)
	hears(t, e, asking(200, 99, 50, 1, 2, 3), 50, replied(200, 1, 1, 2, 3))
	h := replied(201, 1)
	h.All = true
	hears(t, e, asking(201, 99, 50), 50, h)
	isOpen(t, e, q)
	wants(t, e, 2)
	busy(t, e, 1, 2)
	e = New(100, 100)
	e.Want(1)
	q = asking(100, 99, 50, 1)
	opens(t, e, 50, []uint16{1}, q)
	hears(t, e, q, 50, replied(100, 1, 1)) // numbers of both sides may be the same
	isOpen(t, e, q)
	hears(t, e, answer(100, 1), 50, done(1))
}

// P18.2: responses

// Only the response that the open request was performed ends it, once.
func TestHearResponse(t *testing.T) {
	for _, mine := range numbers {
		e := New(mine, 200)
		hears(t, e, answer(mine, 1), 0, api.Heard{})
		e.Want(1, 3, 9)
		hears(t, e, answer(mine, 1), 0, api.Heard{})
		q := asking(mine, 199, 50, 1, 3)
		opens(t, e, 50, []uint16{1, 3}, q)
		for _, number := range []uint32{mine - 2, mine - 1, mine + 1, mine + 2, mine + 1<<31, mine ^ 1<<24, 200, 199} {
			if number == mine {
				continue
			}
			for _, result := range []uint32{1, 5, 6} {
				hears(t, e, answer(number, result), 0, api.Heard{})
			}
		}
		for _, result := range []uint32{5, 6, 6, 5} {
			hears(t, e, answer(mine, result), 0, api.Heard{})
		}
		isOpen(t, e, q)
		wants(t, e, 9)
		busy(t, e, 1, 3, 9)
		hears(t, e, answer(mine, 1), 0, done(1, 3))
		noneOpen(t, e)
		wants(t, e, 9)
		busy(t, e, 9)
		for _, result := range []uint32{1, 5, 6} {
			hears(t, e, answer(mine, result), 0, api.Heard{})
			hears(t, e, answer(mine+1, result), 0, api.Heard{})
		}
		opens(t, e, 51, []uint16{9}, asking(mine+1, 199, 51, 9))
		hears(t, e, answer(mine, 1), 0, api.Heard{}) // one that is late
		isOpen(t, e, asking(mine+1, 199, 51, 9))
		hears(t, e, answer(mine+1, 1), 0, done(9))
	}
}

// No response changes which number is expected.
func TestHearResponseApart(t *testing.T) {
	e := New(100, 200)
	e.Want(1)
	opens(t, e, 50, []uint16{1}, asking(100, 199, 50, 1))
	hears(t, e, answer(100, 1), 50, done(1))
	hears(t, e, answer(200, 1), 50, api.Heard{})
	hears(t, e, asking(200, 100, 50, 5), 50, replied(200, 1, 5))
}

// The mark has no meaning for a response.
func TestHearResponseMarks(t *testing.T) {
	for _, mark := range numbers {
		e := New(100, 200)
		e.Want(1)
		opens(t, e, 50, []uint16{1}, asking(100, 199, 50, 1))
		hears(t, e, answer(100, 1), mark, done(1))
	}
}

// P18.3: memory

// Arguments may be written to after a call, and are not changed by it, nor is what lies behind them.
func TestArguments(t *testing.T) {
	e := New(100, 200)
	streams, drained := []uint16{9, 5, 7, 5, 77}, []uint16{7, 9, 9, 5, 55}
	e.Want(streams[:4]...)
	e.Open(50, drained[:3])
	if !slices.Equal(streams, []uint16{9, 5, 7, 5, 77}) || !slices.Equal(drained, []uint16{7, 9, 9, 5, 55}) {
		t.Errorf("changed: %d, %d", streams, drained)
	}
	for i := range streams {
		streams[i], drained[i] = 1, 2
	}
	isOpen(t, e, asking(100, 199, 50, 7, 9))
	wants(t, e, 5)
	q := asking(200, 99, 50, 1, 2)
	q.Value = append(q.Value, 66, 67)
	before := slices.Clone(q.Value)
	h, _ := e.Hear(api.Param{Kind: 13, Value: q.Value[:16]}, 50)
	if !bytes.Equal(q.Value, before) {
		t.Errorf("changed: %d", q.Value)
	}
	for i := range q.Value {
		q.Value[i] = 99
	}
	if want := replied(200, 1, 1, 2); heard(h) != heard(want) {
		t.Errorf("Hear = %s, want %s", heard(h), heard(want))
	}
}

// Results may be written to, with their spare capacity: the engine goes on as if they were not.
func TestResultsAreNewMemory(t *testing.T) {
	e := New(100, 200)
	e.Want(1, 2, 3, 4, 5, 6)
	spoil(e.Wanted())
	wants(t, e, 1, 2, 3, 4, 5, 6)
	q := asking(100, 199, 50, 2, 3, 4)
	first, _ := e.Open(50, []uint16{2, 3, 4})
	spoil(first.Value)
	second, _ := e.Again()
	spoil(second.Value)
	isOpen(t, e, q)
	h, _ := e.Hear(asking(200, 99, 50, 7, 8, 9), 50)
	spoil(h.In)
	if !sameParam(*h.Reply, answer(200, 1)) {
		t.Errorf("Reply = %v", *h.Reply)
	}
	in := slices.Clone(h.In)
	spoil(h.Reply.Value)
	if !slices.Equal(h.In, in) {
		t.Errorf("In shares memory with Reply: %d", h.In)
	}
	*h.Reply = api.Param{}
	hears(t, e, asking(200, 99, 50, 7, 8, 9), 50, replied(200, 1))
	isOpen(t, e, q)
	h, _ = e.Hear(answer(100, 1), 0)
	spoil(h.Done)
	noneOpen(t, e)
	wants(t, e, 1, 5, 6)
	busy(t, e, 1, 5, 6)
	e.Want(2, 3)
	before := slices.Clone(h.Done)
	opens(t, e, 51, []uint16{2, 3}, asking(101, 200, 51, 2, 3))
	if !slices.Equal(h.Done, before) {
		t.Errorf("a later call changed Done: %d", h.Done)
	}
}

// spoil a list, with its spare capacity.
func spoil[T uint8 | uint16](list []T) {
	list = list[:cap(list)]
	for i := range list {
		list[i] = 97
	}
}

// Engines are apart from each other.
func TestEnginesApart(t *testing.T) {
	a, b := New(100, 200), New(100, 200)
	a.Want(1, 2)
	wants(t, b)
	b.Want(2)
	opens(t, a, 50, []uint16{1}, asking(100, 199, 50, 1))
	noneOpen(t, b)
	opens(t, b, 60, []uint16{2}, asking(100, 199, 60, 2))
	hears(t, a, answer(100, 1), 0, done(1))
	isOpen(t, b, asking(100, 199, 60, 2))
	wants(t, a, 2)
}

// What is done is not kept.
func TestNothingIsKept(t *testing.T) {
	e, o := New(top-5, 7), New(7, top-5)
	for i := range 100000 {
		s := uint16(i * 7919)
		e.Want(s, s+1)
		q, _ := e.Open(uint32(i), []uint16{s, s + 1})
		h, _ := o.Hear(q, uint32(i))
		e.Hear(*h.Reply, 0)
	}
	if len(e.wanted)+len(o.wanted) != 0 || e.open != nil || o.open != nil {
		t.Errorf("%d and %d streams are kept", len(e.wanted), len(o.wanted))
	}
}
