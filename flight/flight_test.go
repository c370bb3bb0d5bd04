package flight

import (
	"fmt"
	"math"
	"slices"
	"testing"

	"flume/api"
)

const top = math.MaxUint32

// firsts are numbers after which nothing goes round, or the numbers do, or their halves meet.
var firsts = []uint32{5, 0, 1, 2, top, top - 1, top - 3, 1<<31 - 2, 1<<31 - 1, 1 << 31}

// limits that are none, so that nothing but the flight's own ways end a fragment.
var always = api.Limit{}

func times(n uint32) api.Limit {
	return api.Limit{Kind: api.Times, N: n}
}

func until(n uint32) api.Limit {
	return api.Limit{Kind: api.Until, N: n}
}

func piece(stream uint16, mid uint32, body string) api.Chunk {
	return api.Chunk{Kind: api.IData, Begin: true, End: true, Stream: stream, Mid: mid, Ppid: 51, Body: []byte(body)}
}

func loose(stream uint16, mid uint32) api.Chunk {
	c := piece(stream, mid, "l")
	c.Loose = true
	return c
}

// flying is a flight of n fragments of one byte, each of a message of its own: 0, 1 and so on.
func flying(first uint32, n int, l api.Limit) *Flight {
	f := New(first)
	for m := range n {
		f.Send(m, l, piece(1, uint32(m), "x"), 0)
	}
	return f
}

func sack(tsn uint32, gaps ...api.Gap) api.Chunk {
	return api.Chunk{Kind: api.Sack, Tsn: tsn, Gaps: gaps}
}

func gap(from, to uint16) api.Gap {
	return api.Gap{From: from, To: to}
}

// gives: is this what a Sack gives?
func gives(t *testing.T, f *Flight, s api.Chunk, now uint32, want api.Acked) {
	t.Helper()
	if got := f.Ack(s, now); got != want {
		t.Errorf("mark %d, next %d: Ack of Tsn %d, %v at %d = %+v, want %+v", f.Mark(), f.Next(), s.Tsn, s.Gaps, now, got, want)
	}
}

// has: are these its numbers?
func has(t *testing.T, f *Flight, mark, next uint32, bytes, left int) {
	t.Helper()
	if f.Mark() != mark || f.Next() != next || f.Bytes() != bytes || f.Left() != left {
		t.Errorf("mark %d, next %d, %d bytes, %d left, want %d, %d, %d, %d", f.Mark(), f.Next(), f.Bytes(), f.Left(), mark, next, bytes, left)
	}
}

// sendsAgain: are these the numbers of what Again gives, and no more?
func sendsAgain(t *testing.T, f *Flight, now uint32, want ...uint32) {
	t.Helper()
	var got []uint32
	for {
		c, ok := f.Again(now)
		if !ok {
			if fmt.Sprint(c) != fmt.Sprint(api.Chunk{}) {
				t.Errorf("Again = %v, false", c)
			}
			break
		}
		got = append(got, c.Tsn)
		if len(got) > len(want) {
			break
		}
	}
	if !slices.Equal(got, want) {
		t.Errorf("Again = %d, want %d", got, want)
	}
}

// expires: are these the messages that Expire tells, and none when it is asked anew?
func expires(t *testing.T, f *Flight, now uint32, want ...int) {
	t.Helper()
	if got := f.Expire(now); !slices.Equal(got, want) {
		t.Errorf("Expire(%d) = %d, want %d", now, got, want)
	}
	if got := f.Expire(now); len(got) != 0 {
		t.Errorf("Expire(%d) anew = %d, want none", now, got)
	}
}

// points: to this number, with these skips?
func points(t *testing.T, f *Flight, inter bool, tsn uint32, skips ...api.Skip) {
	t.Helper()
	want := api.Chunk{Kind: api.Forward, Tsn: tsn, Skips: skips}
	if inter {
		want.Kind = api.IForward
	}
	if c, ok := f.Point(inter); !ok || fmt.Sprint(c) != fmt.Sprint(want) {
		t.Errorf("mark %d: Point(%v) = %v, %v, want %v, true", f.Mark(), inter, c, ok, want)
	}
}

func pointsNowhere(t *testing.T, f *Flight) {
	t.Helper()
	for _, inter := range []bool{true, false} {
		if c, ok := f.Point(inter); ok || fmt.Sprint(c) != fmt.Sprint(api.Chunk{}) {
			t.Errorf("mark %d: Point(%v) = %v, %v, want none", f.Mark(), inter, c, ok)
		}
	}
}

// The chapter's example

func TestExample(t *testing.T) {
	f := New(5)
	for i, body := range []string{"five", "six", "seven"} {
		if c := f.Send(i, always, piece(1, uint32(i), body), 10); c.Tsn != uint32(5+i) {
			t.Errorf("Send gives %d, want %d", c.Tsn, 5+i)
		}
	}
	gives(t, f, sack(5, gap(2, 2)), 17, api.Acked{Bytes: 9, On: true, Rtt: 7})
	has(t, f, 5, 8, 3, 1)
	f.Send(3, always, piece(1, 3, "eight"), 18)
	f.Send(4, always, piece(1, 4, "nine"), 18)
	gives(t, f, sack(5, gap(2, 3)), 20, api.Acked{Bytes: 5, Rtt: 2})
	gives(t, f, sack(5, gap(2, 4)), 21, api.Acked{Bytes: 4, Rtt: 3, Lost: true})
	has(t, f, 5, 10, 0, 1)
	sendsAgain(t, f, 22, 6)
	has(t, f, 5, 10, 3, 1)
	gives(t, f, sack(9), 30, api.Acked{Bytes: 3, On: true, Rtt: -1})
	has(t, f, 9, 10, 0, 0)
}

// P15.1

func TestNew(t *testing.T) {
	for _, first := range firsts {
		f := New(first)
		has(t, f, first-1, first, 0, 0)
		pointsNowhere(t, f)
		sendsAgain(t, f, 0)
		expires(t, f, 0)
		if n := f.Late(); n != 0 {
			t.Errorf("Late = %d", n)
		}
		gives(t, f, sack(first-1), 9, api.Acked{Rtt: -1})
		gives(t, f, sack(first), 9, api.Acked{Rtt: -1, Bad: true})
		gives(t, f, sack(first-2), 9, api.Acked{Rtt: -1, Bad: true})
		gives(t, f, sack(first-1, gap(2, 2)), 9, api.Acked{Rtt: -1, Bad: true})
	}
}

// whole has something in each field.
func whole() api.Chunk {
	return api.Chunk{
		Kind: api.Init, Begin: true, End: true, Loose: true, Bare: true, Tsn: 77, Stream: 1, Mid: 2, Ppid: 3, Frag: 4,
		Tag: 5, Window: 6, Out: 7, In: 8, Gaps: []api.Gap{{From: 9, To: 10}}, Dups: []uint32{11, 12},
		Skips: []api.Skip{{Stream: 13, Loose: true, Mid: 14}}, Params: []api.Param{{Kind: 15, Value: []byte("pa")}, {Kind: 16, Value: []byte("ram")}},
		Body: []byte("body"),
	}
}

func TestSend(t *testing.T) {
	for _, first := range firsts {
		f := New(first)
		for i := range uint32(9) {
			c := whole()
			if i == 8 {
				c = api.Chunk{}
			}
			want := c
			want.Tsn = first + i
			if got := f.Send(int(i), always, c, 3); fmt.Sprintf("%+v", got) != fmt.Sprintf("%+v", want) {
				t.Errorf("Send = %+v, want %+v", got, want)
			}
			has(t, f, first-1, first+i+1, int(min(i+1, 8))*4, int(i)+1)
		}
		f.Late()
		for i := range uint32(8) {
			w := whole()
			w.Tsn = first + i
			if c, ok := f.Again(4); !ok || fmt.Sprintf("%+v", c) != fmt.Sprintf("%+v", w) {
				t.Errorf("Again = %+v, %v, want %+v", c, ok, w)
			}
		}
		sendsAgain(t, f, 4, first+8)
	}
}

// Any number of a message may be, and is not that of another one.
func TestSendMessages(t *testing.T) {
	f := New(1)
	for _, m := range []int{0, -1, math.MaxInt, math.MinInt, 1 << 32, 0} {
		f.Send(m, times(0), piece(1, 0, "x"), 0)
	}
	f.Late()
	sendsAgain(t, f, 1)
	expires(t, f, 1, math.MinInt, -1, 0, 1<<32, math.MaxInt)
}

func TestVoid(t *testing.T) {
	for _, first := range firsts {
		f := New(first)
		f.Send(1, always, piece(1, 0, "ab"), 0)
		for i := range uint32(3) {
			if got := f.Void(2, piece(2, i, "not sent")); got != first+1+i {
				t.Errorf("Void = %d, want %d", got, first+1+i)
			}
			has(t, f, first-1, first+2+i, 2, 1)
		}
		pointsNowhere(t, f)
		if n := f.Late(); n != 1 {
			t.Errorf("Late = %d, want 1", n)
		}
		sendsAgain(t, f, 0, first)
		expires(t, f, 1<<31-1)
		expires(t, f, top)
		gives(t, f, sack(first), 5, api.Acked{Bytes: 2, On: true, Rtt: -1})
		points(t, f, true, first+3, api.Skip{Stream: 2, Mid: 2})
		gives(t, f, sack(first+3), 5, api.Acked{On: true, Rtt: -1})
		has(t, f, first+3, first+4, 0, 0)
		pointsNowhere(t, f)
		expires(t, f, 5)
	}
}

// What is void leaves the rest of its message as it is, and goes with it where that is told.
func TestVoidMessage(t *testing.T) {
	f := New(1)
	f.Void(3, piece(1, 0, ""))
	f.Send(3, until(10), piece(1, 0, "x"), 0)
	f.Void(3, piece(1, 0, ""))
	has(t, f, 0, 4, 1, 1)
	expires(t, f, 10)
	points(t, f, true, 1, api.Skip{Stream: 1})
	expires(t, f, 11, 3)
	points(t, f, true, 3, api.Skip{Stream: 1})
	f.Void(3, piece(1, 1, ""))
	expires(t, f, 12)
	has(t, f, 0, 5, 0, 0)
}

// P15.2: what is Bad

func TestBadKinds(t *testing.T) {
	f := flying(5, 4, always)
	for kind := range 256 {
		s := sack(6)
		s.Kind = api.ChunkKind(kind)
		if s.Kind != api.Sack {
			gives(t, f, s, 9, api.Acked{Rtt: -1, Bad: true})
			has(t, f, 4, 9, 4, 4)
		}
	}
	gives(t, f, sack(6), 9, api.Acked{Bytes: 2, On: true, Rtt: 9})
}

func TestBadTsn(t *testing.T) {
	for _, first := range firsts {
		for _, off := range []uint32{top - 4, top - 1, top, 0, 1, 2, 3, 4, 5, 6, 1 << 16, 1<<31 - 2, 1<<31 - 1, 1 << 31, 1<<31 + 1} {
			f := flying(first, 4, always)
			f.Ack(sack(first), 0)
			want := api.Acked{Rtt: -1, Bad: true}
			if off <= 3 { // the mark, and the three after it
				want = api.Acked{Bytes: int(off), On: off > 0, Rtt: -1}
				if off > 0 {
					want.Rtt = 9
				}
			}
			gives(t, f, sack(first+off), 9, want)
			if want.Bad {
				has(t, f, first, first+4, 3, 3)
			} else {
				has(t, f, first+off, first+4, 3-int(off), 3-int(off))
			}
		}
	}
}

func TestBadGaps(t *testing.T) {
	for _, first := range firsts {
		for _, gaps := range [][]api.Gap{
			{gap(0, 0)}, {gap(0, 3)}, {gap(1, 1)}, {gap(1, 3)}, // a From less than 2
			{gap(3, 2)}, {gap(9, 0)}, {gap(2, 1)}, {gap(2, 3), gap(6, 5)}, // a To less than its From
			{gap(2, 2), gap(2, 2)}, {gap(2, 2), gap(3, 3)}, {gap(2, 4), gap(3, 6)}, {gap(5, 6), gap(2, 3)}, {gap(2, 4), gap(0, 6)}, // not after the one ahead
			{gap(2, 2), gap(4, 4), gap(5, 5)}, {gap(2, 2), gap(4, 5), gap(4, 7)},
			{gap(2, 10)}, {gap(10, 10)}, {gap(2, 65535)}, {gap(65535, 65535)}, {gap(2, 3), gap(5, 10)}, // farther than the last
			{gap(2, 2), gap(4, 4), gap(6, 6), gap(1, 1)}, {gap(2, 2), gap(4, 4), gap(0, 0)},
		} {
			f := flying(first, 10, always)
			f.Ack(sack(first), 0)
			gives(t, f, sack(first, gaps...), 9, api.Acked{Rtt: -1, Bad: true})
			has(t, f, first, first+10, 9, 9)
			// One that moves the mark is as bad, and moves nothing.
			if gaps[len(gaps)-1].To != 9 {
				gives(t, f, sack(first+2, gaps...), 9, api.Acked{Rtt: -1, Bad: true})
				has(t, f, first, first+10, 9, 9)
			}
		}
	}
}

func TestGoodGaps(t *testing.T) {
	for _, first := range firsts {
		for _, x := range []struct {
			gaps  []api.Gap
			bytes int
		}{
			{nil, 0},
			{[]api.Gap{}, 0},
			{[]api.Gap{gap(2, 2)}, 1},
			{[]api.Gap{gap(2, 9)}, 8},
			{[]api.Gap{gap(9, 9)}, 1},
			{[]api.Gap{gap(2, 2), gap(4, 4), gap(6, 6), gap(8, 8)}, 4},
			{[]api.Gap{gap(2, 4), gap(6, 9)}, 7},
			{[]api.Gap{gap(3, 5), gap(8, 8)}, 4},
		} {
			f := flying(first, 10, always)
			f.Ack(sack(first), 0)
			want := api.Acked{Bytes: x.bytes, Rtt: -1}
			if x.bytes > 0 {
				want.Rtt = 9
			}
			gives(t, f, sack(first, x.gaps...), 9, want)
			has(t, f, first, first+10, 9-x.bytes, 9-x.bytes)
			f.Late()
			var rest []uint32
			for d := range uint32(9) {
				if !slices.ContainsFunc(x.gaps, func(g api.Gap) bool { return uint32(g.From) <= d+1 && d+1 <= uint32(g.To) }) {
					rest = append(rest, first+1+d)
				}
			}
			sendsAgain(t, f, 9, rest...)
		}
	}
}

// The numbers of gaps go up to 65535, and not round after that.
func TestFarGaps(t *testing.T) {
	for _, first := range []uint32{1, top - 40000} {
		f := flying(first, 65536, always)
		bad := api.Acked{Rtt: -1, Bad: true}
		gives(t, f, sack(first-1, gap(2, 65535), gap(0, 0)), 1, bad)
		gives(t, f, sack(first-1, gap(2, 65535), gap(1, 1)), 1, bad)
		gives(t, f, sack(first-1, gap(2, 65534), gap(65535, 65535)), 1, bad)
		gives(t, f, sack(first-1, gap(65535, 65535), gap(2, 2)), 1, bad)
		gives(t, f, sack(first, gap(2, 65535)), 1, api.Acked{Bytes: 65535, On: true, Rtt: 1})
		has(t, f, first, first+65536, 1, 1)
		gives(t, f, sack(first+1, gap(2, 65535)), 1, bad)

		f = flying(first, 65536, always)
		gives(t, f, sack(first+1, gap(2, 65535)), 1, bad)
		gives(t, f, sack(first-1, gap(2, 65533), gap(65535, 65535)), 1, api.Acked{Bytes: 65533, Rtt: 1})
		gives(t, f, sack(first-1, gap(2, 65533), gap(65535, 65535)), 1, api.Acked{Rtt: -1})
		has(t, f, first-1, first+65536, 3, 3)
		f.Late()
		sendsAgain(t, f, 2, first, first+65533, first+65535)
	}
}

// A Bad one misses nothing and takes nothing for arrived.
func TestBadChangesNothing(t *testing.T) {
	f := flying(1, 8, always)
	bads := []api.Chunk{
		sack(0, gap(2, 2), gap(3, 3)), sack(0, gap(2, 9)), sack(2, gap(2, 7)), sack(9), sack(top),
		{Kind: api.Data, Tsn: 2, Gaps: []api.Gap{gap(2, 2)}}, sack(3, gap(1, 2)), sack(3, gap(2, 2), gap(5, 4)),
	}
	for i := range uint16(3) {
		for _, s := range bads {
			gives(t, f, s, 9, api.Acked{Rtt: -1, Bad: true})
		}
		has(t, f, 0, 9, 8-int(i), 8-int(i))
		sendsAgain(t, f, 9)
		gives(t, f, sack(0, gap(2, 2+i)), 9, api.Acked{Bytes: 1, Rtt: 9, Lost: i == 2})
	}
	sendsAgain(t, f, 9, 1)
}

// P15.2: what arrives

func TestAckBytes(t *testing.T) {
	f := New(1)
	for i, size := range []int{0, 1, 10, 100, 1000, 10000, 65536} {
		f.Send(i, times(0), api.Chunk{Kind: api.IData, Body: make([]byte, size)}, 5)
	}
	f.Send(5, always, api.Chunk{Kind: api.IData, Body: make([]byte, 7)}, 5)
	has(t, f, 0, 9, 76654, 8)
	gives(t, f, sack(0, gap(2, 2), gap(4, 4)), 7, api.Acked{Bytes: 101, Rtt: 2})
	has(t, f, 0, 9, 76553, 6)
	gives(t, f, sack(0, gap(2, 2), gap(4, 4)), 7, api.Acked{Rtt: -1})
	f.Late()
	has(t, f, 0, 9, 0, 6)
	gives(t, f, sack(0, gap(2, 5)), 8, api.Acked{Bytes: 1010, Rtt: 3}) // what is lost counts
	has(t, f, 0, 9, 0, 4)
	sendsAgain(t, f, 9) // 0 is abandoned, and 5 and 6 are
	has(t, f, 0, 9, 0, 0)
	gives(t, f, sack(0, gap(2, 7)), 9, api.Acked{Rtt: -1}) // what is abandoned does not
	gives(t, f, sack(8), 9, api.Acked{On: true, Rtt: -1})
	has(t, f, 8, 9, 0, 0)
	expires(t, f, 9, 0, 5, 6)
}

// Of the message that is abandoned, an own limit does not matter.
func TestAckBytesOfOthers(t *testing.T) {
	f := New(1)
	f.Send(1, times(0), piece(1, 0, "abc"), 5)
	f.Send(2, always, piece(1, 1, "de"), 5)
	f.Send(1, always, piece(1, 0, "f"), 5)
	f.Late()
	sendsAgain(t, f, 6, 2)
	has(t, f, 0, 4, 2, 1)
	gives(t, f, sack(3), 9, api.Acked{Bytes: 2, On: true, Rtt: -1})
}

// What has arrived stays so, also where a later Sack does not tell it.
func TestArrivedStays(t *testing.T) {
	f := flying(1, 6, always)
	gives(t, f, sack(0, gap(3, 4)), 9, api.Acked{Bytes: 2, Rtt: 9})
	gives(t, f, sack(0), 9, api.Acked{Rtt: -1})
	gives(t, f, sack(0, gap(3, 3)), 9, api.Acked{Rtt: -1})
	has(t, f, 0, 7, 4, 4)
	if n := f.Late(); n != 4 {
		t.Errorf("Late = %d, want 4", n)
	}
	sendsAgain(t, f, 9, 1, 2, 5, 6)
	gives(t, f, sack(4), 9, api.Acked{Bytes: 2, On: true, Rtt: -1})
	gives(t, f, sack(3), 9, api.Acked{Rtt: -1, Bad: true}) // it comes late
	has(t, f, 4, 7, 2, 2)
}

func TestAckRtt(t *testing.T) {
	f := New(top)
	for i := range uint32(6) {
		f.Send(int(i), always, piece(1, i, "x"), top-2+i*3) // at top - 2, 0, 3, 6, 9, 12
	}
	gives(t, f, sack(top, gap(3, 3)), 6, api.Acked{Bytes: 2, On: true, Rtt: 0}) // 2: the greatest, though not sent first
	gives(t, f, sack(top), 6, api.Acked{Rtt: -1})                               // nothing new
	gives(t, f, sack(0), 7, api.Acked{Bytes: 1, On: true, Rtt: 7})
	gives(t, f, sack(2), 8, api.Acked{Bytes: 1, On: true, Rtt: 5}) // 1, as 2 is not new
	f.Late()
	if c, _ := f.Again(20); c.Tsn != 3 {
		t.Errorf("Again = %d, want 3", c.Tsn)
	}
	gives(t, f, sack(3), 22, api.Acked{Bytes: 1, On: true, Rtt: -1}) // sent twice
	gives(t, f, sack(4), 32, api.Acked{Bytes: 1, On: true, Rtt: 20}) // lost, but sent once
}

// A fragment sent twice, or abandoned, leaves it to those ahead of it.
func TestAckRttSkips(t *testing.T) {
	f := New(1)
	f.Send(1, always, piece(1, 0, "a"), 10)
	f.Send(2, always, piece(1, 1, "b"), 20)
	f.Send(3, times(1), piece(1, 2, "c"), 30)
	f.Send(4, times(0), piece(1, 3, "d"), 40)
	f.Void(5, piece(1, 4, ""))
	gives(t, f, sack(0, gap(2, 2)), 50, api.Acked{Bytes: 1, Rtt: 30})
	f.Late()
	if c, _ := f.Again(60); c.Tsn != 1 {
		t.Errorf("Again = %d, want 1", c.Tsn)
	}
	sendsAgain(t, f, 61, 3)
	f.Send(6, always, piece(1, 5, "f"), 62)
	gives(t, f, sack(0, gap(2, 5)), 70, api.Acked{Bytes: 1, Rtt: -1}) // 3 was sent twice, 4 is abandoned, 5 was never sent
	gives(t, f, sack(6), 75, api.Acked{Bytes: 2, On: true, Rtt: 13})

	f = New(1)
	f.Send(1, always, piece(1, 0, "a"), 10)
	f.Send(2, times(0), piece(1, 1, "b"), 10)
	f.Send(3, until(50), piece(1, 2, "c"), 10)
	f.Send(2, times(9), piece(1, 1, "d"), 10)
	expires(t, f, 51, 3)
	gives(t, f, sack(0, gap(4, 4)), 60, api.Acked{Bytes: 1, Rtt: 50})
	gives(t, f, sack(3), 70, api.Acked{Bytes: 2, On: true, Rtt: 60})
	has(t, f, 3, 5, 0, 0)
}

// Ticks go round as numbers do.
func TestAckRttTicks(t *testing.T) {
	for _, x := range []struct {
		sent, now uint32
		want      int
	}{
		{0, 0, 0}, {7, 7, 0}, {7, 8, 1}, {0, 60001, 60001}, {top, 0, 1}, {top - 9, 20, 30}, {0, 1 << 31, 1 << 31}, {0, top, top}, {8, 7, top},
	} {
		f := New(1)
		f.Send(1, always, piece(1, 0, "x"), x.sent)
		gives(t, f, sack(1), x.now, api.Acked{Bytes: 1, On: true, Rtt: x.want})
	}
}

// P15.2: what is missed

func TestMissed(t *testing.T) {
	for _, first := range firsts {
		f := flying(first, 20, always)
		gives(t, f, sack(first, gap(4, 4)), 1, api.Acked{Bytes: 2, On: true, Rtt: 1})
		gives(t, f, sack(first, gap(4, 4)), 1, api.Acked{Rtt: -1}) // what brings nothing new misses nothing
		gives(t, f, sack(first, gap(4, 4)), 1, api.Acked{Rtt: -1})
		gives(t, f, sack(first, gap(4, 4), gap(7, 7)), 1, api.Acked{Bytes: 1, Rtt: 1})
		gives(t, f, sack(first, gap(3, 4), gap(7, 7)), 1, api.Acked{Bytes: 1, Rtt: 1, Lost: true}) // of 1 and 2 the third time, of 5 and 6 not even once more
		has(t, f, first, first+20, 14, 16)
		sendsAgain(t, f, 1, first+1, first+2)
		gives(t, f, sack(first, gap(3, 4), gap(7, 8)), 1, api.Acked{Bytes: 1, Rtt: 1})
		gives(t, f, sack(first, gap(3, 4), gap(7, 9)), 1, api.Acked{Bytes: 1, Rtt: 1, Lost: true}) // 5 and 6; 1 and 2 anew only twice
		sendsAgain(t, f, 1, first+5, first+6)
		gives(t, f, sack(first, gap(3, 4), gap(7, 10)), 1, api.Acked{Bytes: 1, Rtt: 1, Lost: true})
		sendsAgain(t, f, 1, first+1, first+2)
	}
}

// One Sack misses a fragment once, whatever arrives by it.
func TestMissedOnce(t *testing.T) {
	f := flying(1, 20, always)
	gives(t, f, sack(0, gap(2, 9), gap(11, 15)), 1, api.Acked{Bytes: 13, Rtt: 1})
	gives(t, f, sack(0, gap(2, 9), gap(11, 16)), 1, api.Acked{Bytes: 1, Rtt: 1})
	gives(t, f, sack(0, gap(2, 9), gap(11, 17)), 1, api.Acked{Bytes: 1, Rtt: 1, Lost: true})
	gives(t, f, sack(0, gap(2, 9), gap(11, 18)), 1, api.Acked{Bytes: 1, Rtt: 1}) // what is lost is not missed any more
	sendsAgain(t, f, 1, 1, 10)
}

// By what arrives up to the mark, nothing after it is missed.
func TestMissedByMark(t *testing.T) {
	f := flying(1, 20, always)
	for i := range uint32(10) {
		gives(t, f, sack(i+1), 1, api.Acked{Bytes: 1, On: true, Rtt: 1})
	}
	gives(t, f, sack(10, gap(2, 2)), 1, api.Acked{Bytes: 1, Rtt: 1})
	gives(t, f, sack(12, gap(2, 2)), 1, api.Acked{Bytes: 2, On: true, Rtt: 1})
	for i := range uint32(3) {
		gives(t, f, sack(14+i), 1, api.Acked{Bytes: 1, On: true, Rtt: 1})
	}
	has(t, f, 16, 21, 4, 4)
	sendsAgain(t, f, 1)
}

// What is abandoned and arrives all the same is new, too, and misses those ahead of it.
func TestMissedByAbandoned(t *testing.T) {
	f := New(1)
	f.Send(1, always, piece(1, 0, "a"), 0)
	f.Send(2, until(5), piece(1, 1, "b"), 0)
	f.Send(3, until(5), piece(1, 2, "c"), 0)
	f.Send(4, until(5), piece(1, 3, "d"), 0)
	expires(t, f, 6, 2, 3, 4)
	for i := range uint16(3) {
		gives(t, f, sack(0, gap(2, 2+i)), 9, api.Acked{Rtt: -1, Lost: i == 2})
	}
	sendsAgain(t, f, 9, 1)
}

// What is lost, arrived or abandoned is not missed.
func TestMissedOnlyInFlight(t *testing.T) {
	f := flying(1, 4, always)
	f.Late()
	if c, _ := f.Again(1); c.Tsn != 1 {
		t.Errorf("Again = %d, want 1", c.Tsn)
	}
	for i := range uint32(3) {
		f.Send(9, always, piece(1, 9, "x"), 1)
		gives(t, f, sack(0, gap(5, 5+uint16(i))), 1, api.Acked{Bytes: 1, Rtt: 0, Lost: i == 2})
	}
	sendsAgain(t, f, 1, 1, 2, 3, 4)
	f.Send(9, always, piece(1, 9, "x"), 1)
	gives(t, f, sack(0, gap(5, 8)), 1, api.Acked{Bytes: 1, Rtt: 0}) // 2, 3 and 4 are missed for the first time
	sendsAgain(t, f, 1)
}

// Late takes what was missed, and when it is sent again nothing of that counts.
func TestMissedThenLate(t *testing.T) {
	f := flying(1, 9, always)
	f.Ack(sack(0, gap(2, 2)), 1)
	f.Ack(sack(0, gap(2, 3)), 1)
	f.Late()
	sendsAgain(t, f, 1, 1, 4, 5, 6, 7, 8, 9)
	gives(t, f, sack(0, gap(2, 4)), 1, api.Acked{Bytes: 1, Rtt: -1})
	gives(t, f, sack(0, gap(2, 5)), 1, api.Acked{Bytes: 1, Rtt: -1})
	gives(t, f, sack(0, gap(2, 6)), 1, api.Acked{Bytes: 1, Rtt: -1, Lost: true})
	sendsAgain(t, f, 1, 1)
}

// P15.3

func TestLate(t *testing.T) {
	for _, first := range firsts {
		f := flying(first, 6, always)
		f.Void(9, piece(1, 9, ""))
		f.Ack(sack(first, gap(3, 3)), 1)
		if n := f.Late(); n != 4 {
			t.Errorf("Late = %d, want 4", n)
		}
		has(t, f, first, first+7, 0, 4)
		if n := f.Late(); n != 0 {
			t.Errorf("Late = %d, want 0", n)
		}
		if c, ok := f.Again(1); !ok || c.Tsn != first+1 {
			t.Errorf("Again = %v, %v", c, ok)
		}
		if n := f.Late(); n != 1 {
			t.Errorf("Late = %d, want 1", n)
		}
		sendsAgain(t, f, 1, first+1, first+2, first+4, first+5)
		has(t, f, first, first+7, 4, 4)
	}
}

// What is lost later, with a lesser number, goes first.
func TestAgainLeast(t *testing.T) {
	f := flying(1, 9, always)
	f.Ack(sack(0, gap(6, 6)), 1)
	f.Ack(sack(0, gap(6, 7)), 1)
	f.Ack(sack(0, gap(6, 8)), 1) // 1 to 5 are lost
	for want := range uint32(3) {
		if c, ok := f.Again(1); !ok || c.Tsn != want+1 {
			t.Errorf("Again = %d, %v, want %d", c.Tsn, ok, want+1)
		}
	}
	f.Late()
	sendsAgain(t, f, 1, 1, 2, 3, 4, 5, 9)
	f.Late()
	f.Ack(sack(3, gap(2, 2)), 1)
	sendsAgain(t, f, 1, 4, 9)
}

// Times N: sent once, and N times again.
func TestAgainTimes(t *testing.T) {
	for _, n := range []uint32{0, 1, 2, 5, 30} {
		f := New(1)
		f.Send(7, times(n), piece(2, 0, "abc"), 0)
		for range n {
			f.Late()
			has(t, f, 0, 2, 0, 1)
			sendsAgain(t, f, 1, 1)
			expires(t, f, top)
			has(t, f, 0, 2, 3, 1)
			pointsNowhere(t, f)
		}
		f.Late()
		expires(t, f, 1)
		sendsAgain(t, f, 1)
		has(t, f, 0, 2, 0, 0)
		points(t, f, true, 1, api.Skip{Stream: 2})
		expires(t, f, 1, 7)
		sendsAgain(t, f, 1)
	}
}

// Other limits, and kinds that are none, do not count how often.
func TestAgainOtherLimits(t *testing.T) {
	for _, l := range []api.Limit{{}, {N: 1}, until(0), until(5), {Kind: 3}, {Kind: -1, N: 1}, times(1000), times(top), times(top - 1)} {
		f := New(1)
		f.Send(7, l, piece(2, 0, "abc"), 0)
		for now := range uint32(300) {
			f.Late()
			sendsAgain(t, f, now, 1) // what Until says is for Expire alone
		}
		has(t, f, 0, 2, 3, 1)
	}
}

// The message goes with its fragment: what is in flight or lost of it, ahead of it and after it, but nothing of others.
func TestAgainWholeMessage(t *testing.T) {
	for _, first := range firsts {
		f := New(first)
		for i, m := range []int{1, 2, 1, 1, 2, 1} {
			l := always
			if i == 2 {
				l = times(0)
			}
			f.Send(m, l, piece(uint16(m), 0, "ab"), 0)
		}
		gives(t, f, sack(first-1, gap(4, 4)), 1, api.Acked{Bytes: 2, Rtt: 1})
		gives(t, f, sack(first-1, gap(4, 5)), 1, api.Acked{Bytes: 2, Rtt: 1})
		if n := f.Late(); n != 4 {
			t.Errorf("Late = %d, want 4", n)
		}
		sendsAgain(t, f, 3, first, first+1) // then 2 is abandoned with 0 and 5, and 3 has arrived
		has(t, f, first-1, first+6, 2, 1)
		points(t, f, false, first, api.Skip{Stream: 1})
		expires(t, f, 3, 1)
		gives(t, f, sack(first+1), 4, api.Acked{Bytes: 2, On: true, Rtt: -1})
		points(t, f, false, first+2, api.Skip{Stream: 1})
		gives(t, f, sack(first+4), 4, api.Acked{On: true, Rtt: -1})
		points(t, f, false, first+5, api.Skip{Stream: 1})
	}
}

// One call abandons as many as it meets, and gives the next one.
func TestAgainNext(t *testing.T) {
	f := New(1)
	for m := range 10 {
		l := times(0)
		if m == 6 {
			l = times(1)
		}
		f.Send(m, l, piece(1, uint32(m), "x"), 0)
	}
	f.Late()
	if c, ok := f.Again(3); !ok || c.Tsn != 7 || c.Mid != 6 {
		t.Errorf("Again = %v, %v", c, ok)
	}
	has(t, f, 0, 11, 1, 4)
	points(t, f, true, 6, api.Skip{Stream: 1, Mid: 5})
	expires(t, f, 3, 0, 1, 2, 3, 4, 5)
	sendsAgain(t, f, 3)
	has(t, f, 0, 11, 1, 1)
	points(t, f, true, 6, api.Skip{Stream: 1, Mid: 5})
	expires(t, f, 3, 7, 8, 9)
}

// The tick at which something was sent again is not measured, as it was sent twice, nor the one ahead of it.
func TestAgainTick(t *testing.T) {
	f := flying(1, 2, always)
	f.Late()
	sendsAgain(t, f, 50, 1, 2)
	gives(t, f, sack(1), 60, api.Acked{Bytes: 1, On: true, Rtt: -1})
	f.Late()
	sendsAgain(t, f, 70, 2)
	gives(t, f, sack(2), 80, api.Acked{Bytes: 1, On: true, Rtt: -1})
}

// P15.4

func TestExpireTicks(t *testing.T) {
	for _, n := range []uint32{0, 1, 100, 1<<31 - 1, 1 << 31, top - 1, top} {
		for _, x := range []struct {
			after uint32
			gone  bool
		}{
			{0, false}, {1, true}, {2, true}, {1<<31 - 1, true}, {1 << 31, false}, {1<<31 + 1, false}, {top, false}, {top - 9, false},
		} {
			f := New(1)
			f.Send(4, until(n), piece(3, 9, "x"), 0)
			if !x.gone {
				expires(t, f, n+x.after)
				has(t, f, 0, 2, 1, 1)
				pointsNowhere(t, f)
				continue
			}
			expires(t, f, n+x.after, 4)
			has(t, f, 0, 2, 0, 0)
			points(t, f, true, 1, api.Skip{Stream: 3, Mid: 9})
		}
	}
}

func TestExpireOtherLimits(t *testing.T) {
	for _, l := range []api.Limit{{}, {N: 5}, times(0), times(5), {Kind: 3, N: 5}, {Kind: -1, N: 5}} {
		f := New(1)
		f.Send(4, l, piece(3, 9, "x"), 0)
		for _, now := range []uint32{0, 5, 6, 1 << 30, 1 << 31, top} {
			expires(t, f, now)
		}
		has(t, f, 0, 2, 1, 1)
	}
}

// In flight or lost, sent once or again: what has not arrived goes, and with it the whole message.
func TestExpireWholeMessage(t *testing.T) {
	f := New(1)
	for i, m := range []int{1, 2, 1, 3, 1, 2} {
		l := until(50)
		if i != 2 {
			l = always
		}
		f.Send(m, l, piece(uint16(m), 0, "ab"), 0)
	}
	f.Late()
	if c, _ := f.Again(1); c.Tsn != 1 {
		t.Errorf("Again = %d, want 1", c.Tsn)
	}
	has(t, f, 0, 7, 2, 6)
	expires(t, f, 50)
	expires(t, f, 51, 1)
	has(t, f, 0, 7, 0, 3)
	sendsAgain(t, f, 52, 2, 4, 6)
	points(t, f, true, 1, api.Skip{Stream: 1})
	expires(t, f, 60)
}

// A limit holds for what has not arrived alone.
func TestExpireArrived(t *testing.T) {
	f := New(1)
	f.Send(1, until(50), piece(1, 0, "a"), 0)
	f.Send(2, always, piece(1, 1, "b"), 0)
	f.Send(2, until(50), piece(1, 1, "c"), 0)
	f.Send(2, always, piece(1, 1, "d"), 0)
	f.Send(3, until(50), piece(1, 2, "e"), 0)
	gives(t, f, sack(1, gap(2, 2)), 9, api.Acked{Bytes: 2, On: true, Rtt: 9})
	expires(t, f, 51, 3)
	has(t, f, 1, 6, 2, 2)
	expires(t, f, 90)
}

// Several limits of one message: the first to pass takes it.
func TestExpireSeveral(t *testing.T) {
	f := New(1)
	f.Send(5, until(30), piece(1, 0, "a"), 0)
	f.Send(5, until(20), piece(1, 0, "b"), 0)
	f.Send(5, times(0), piece(1, 0, "c"), 0)
	f.Send(6, until(30), piece(1, 1, "d"), 0)
	expires(t, f, 20)
	expires(t, f, 21, 5)
	expires(t, f, 30)
	has(t, f, 0, 5, 1, 1)
	expires(t, f, 31, 6)
}

func TestExpireOrder(t *testing.T) {
	messages := []int{7, -3, math.MaxInt, 0, 7, math.MinInt, 1 << 40, -3, 12, 9}
	f := New(1)
	for i, m := range messages {
		l := until(uint32(10 + i))
		if i%3 == 0 {
			l = times(0)
		}
		f.Send(m, l, piece(1, 0, "x"), 0)
	}
	f.Late()
	sendsAgain(t, f, 1, 2, 3, 6, 8, 9)
	// By Again 7, 0, 1 << 40 and 9 were abandoned, now the others are.
	expires(t, f, 100, math.MinInt, -3, 0, 7, 9, 12, 1<<40, math.MaxInt)
}

// What Again abandoned is told also when the flight has forgotten its fragments.
func TestExpireForgotten(t *testing.T) {
	f := flying(1, 3, times(0))
	f.Late()
	sendsAgain(t, f, 1)
	gives(t, f, sack(3), 2, api.Acked{On: true, Rtt: -1})
	has(t, f, 3, 4, 0, 0)
	expires(t, f, 3, 0, 1, 2)
}

// A number of a message may be used again, and be abandoned again.
func TestExpireAnew(t *testing.T) {
	f := New(1)
	for round := range uint32(5) {
		f.Send(1, until(10*round), piece(1, round, "x"), 0)
		f.Send(1, always, piece(1, round, "x"), 0)
		has(t, f, 0, 3+2*round, 2, 2)
		expires(t, f, 10*round)
		expires(t, f, 10*round+1, 1)
		has(t, f, 0, 3+2*round, 0, 0)
		points(t, f, true, 2*round+2, api.Skip{Stream: 1, Mid: round})
	}
	f.Send(1, times(0), piece(1, 9, "x"), 0)
	gives(t, f, sack(9), 50, api.Acked{On: true, Rtt: -1})
	f.Send(1, until(60), piece(1, 9, "y"), 0)
	gives(t, f, sack(10), 50, api.Acked{On: true, Rtt: -1})
	has(t, f, 10, 13, 2, 2)
	f.Late()
	sendsAgain(t, f, 51)
	has(t, f, 10, 13, 0, 0)
	expires(t, f, 51, 1)
}

// P15.5

func TestPoint(t *testing.T) {
	for _, first := range firsts {
		f := New(first)
		for m, l := range []api.Limit{until(5), until(6), always, until(5), always} {
			f.Send(m, l, piece(uint16(m), uint32(10+m), "x"), 0)
		}
		pointsNowhere(t, f)
		f.Expire(6)
		points(t, f, true, first, api.Skip{Stream: 0, Mid: 10})
		points(t, f, false, first, api.Skip{Stream: 0, Mid: 10})
		f.Expire(7)
		points(t, f, true, first+1, api.Skip{Stream: 0, Mid: 10}, api.Skip{Stream: 1, Mid: 11})
		points(t, f, true, first+1, api.Skip{Stream: 0, Mid: 10}, api.Skip{Stream: 1, Mid: 11})
		gives(t, f, sack(first), 9, api.Acked{On: true, Rtt: -1})
		points(t, f, false, first+1, api.Skip{Stream: 1, Mid: 11})
		gives(t, f, sack(first+1), 9, api.Acked{On: true, Rtt: -1})
		pointsNowhere(t, f)
		gives(t, f, sack(first+2), 9, api.Acked{Bytes: 1, On: true, Rtt: 9})
		points(t, f, true, first+3, api.Skip{Stream: 3, Mid: 13})
		if got := f.Void(9, piece(1, 0, "")); got != first+5 {
			t.Errorf("Void = %d, want %d", got, first+5)
		}
		points(t, f, true, first+3, api.Skip{Stream: 3, Mid: 13})
		gives(t, f, sack(first+4), 9, api.Acked{Bytes: 1, On: true, Rtt: 9})
		points(t, f, true, first+5, api.Skip{Stream: 1, Mid: 0})
		f.Send(8, always, piece(1, 1, "x"), 0)
		f.Void(8, piece(1, 2, ""))
		points(t, f, true, first+5, api.Skip{Stream: 1, Mid: 0})
	}
}

// What has arrived ends the row, as what is in flight or lost does.
func TestPointEnds(t *testing.T) {
	for name, end := range map[string]func(f *Flight){
		"in flight": func(*Flight) {},
		"lost":      func(f *Flight) { f.Late() },
		"arrived":   func(f *Flight) { f.Ack(sack(0, gap(3, 3)), 1) },
	} {
		f := New(1)
		f.Void(1, piece(1, 0, ""))
		f.Void(2, piece(2, 0, ""))
		f.Send(3, always, piece(3, 0, "x"), 0)
		f.Void(4, piece(4, 0, ""))
		end(f)
		if c, ok := f.Point(true); !ok || c.Tsn != 2 || len(c.Skips) != 2 {
			t.Errorf("%s: Point = %v, %v", name, c, ok)
		}
	}
}

// One that is abandoned, and arrives all the same, is not in the row any more, whether Point was asked before or not.
func TestPointArrives(t *testing.T) {
	for _, asked := range []bool{true, false} {
		f := New(1)
		for i := range uint32(6) {
			f.Void(1, piece(uint16(i%2), 50-i, ""))
		}
		if asked {
			points(t, f, true, 6, api.Skip{Stream: 0, Mid: 50}, api.Skip{Stream: 1, Mid: 49})
		}
		gives(t, f, sack(0, gap(5, 5)), 1, api.Acked{Rtt: -1})
		points(t, f, true, 4, api.Skip{Stream: 0, Mid: 50}, api.Skip{Stream: 1, Mid: 49})
		gives(t, f, sack(0, gap(2, 2), gap(5, 5)), 1, api.Acked{Rtt: -1})
		points(t, f, true, 1, api.Skip{Stream: 0, Mid: 50})
		gives(t, f, sack(2), 1, api.Acked{On: true, Rtt: -1})
		points(t, f, true, 4, api.Skip{Stream: 0, Mid: 48}, api.Skip{Stream: 1, Mid: 47})
		gives(t, f, sack(5), 1, api.Acked{On: true, Rtt: -1})
		points(t, f, true, 6, api.Skip{Stream: 1, Mid: 45})
		gives(t, f, sack(6), 1, api.Acked{On: true, Rtt: -1})
		pointsNowhere(t, f)
	}
}

func TestPointSkips(t *testing.T) {
	f := New(1)
	f.Void(1, loose(7, 4))
	f.Void(1, piece(65535, 1, ""))
	f.Void(1, piece(7, 9, ""))
	f.Void(1, loose(0, 3))
	f.Void(1, loose(7, 5))
	f.Void(1, piece(7, 8, ""))
	f.Void(1, loose(300, 1))
	f.Void(1, piece(0, 2, ""))
	points(t, f, true, 8,
		api.Skip{Stream: 0, Mid: 2}, api.Skip{Stream: 0, Loose: true, Mid: 3},
		api.Skip{Stream: 7, Mid: 9}, api.Skip{Stream: 7, Loose: true, Mid: 5},
		api.Skip{Stream: 300, Loose: true, Mid: 1}, api.Skip{Stream: 65535, Mid: 1})
	points(t, f, false, 8, api.Skip{Stream: 0, Mid: 2}, api.Skip{Stream: 7, Mid: 9}, api.Skip{Stream: 65535, Mid: 1})
}

// Where all is loose, a Forward has a number alone.
func TestPointLoose(t *testing.T) {
	f := New(1)
	f.Void(1, loose(7, 4))
	points(t, f, false, 1)
	points(t, f, true, 1, api.Skip{Stream: 7, Loose: true, Mid: 4})
}

// The latest one is so by 32 bits, whatever the kind of chunk, and of two half the range apart the first one stays.
func TestPointLatest(t *testing.T) {
	for _, x := range []struct {
		mids []uint32
		want uint32
	}{
		{[]uint32{4}, 4}, {[]uint32{4, 4}, 4}, {[]uint32{4, 5}, 5}, {[]uint32{5, 4}, 5}, {[]uint32{4, 9, 5}, 9},
		{[]uint32{top, 0}, 0}, {[]uint32{0, top}, 0}, {[]uint32{top - 1, 1, top}, 1},
		{[]uint32{1 << 31}, 1 << 31}, {[]uint32{1<<31 + 5, 0}, 0}, {[]uint32{1<<31 + 5, 4}, 4}, {[]uint32{1<<31 + 5, 5}, 1<<31 + 5}, {[]uint32{1<<31 + 5, 6}, 1<<31 + 5},
		{[]uint32{65535, 0}, 65535}, {[]uint32{65534, 65535, 0, 1}, 65535}, {[]uint32{65535, 65536}, 65536},
		{[]uint32{0, 1 << 31}, 0}, {[]uint32{1 << 31, 0}, 1 << 31}, {[]uint32{0, 1<<31 - 1}, 1<<31 - 1}, {[]uint32{0, 1<<31 + 1}, 0},
		{[]uint32{0, 1<<31 - 1, 1<<31 + 5, 3, 1}, 3},
	} {
		for _, kind := range []api.ChunkKind{api.Data, api.IData} {
			f := New(top)
			for i, mid := range x.mids {
				c := piece(1, mid, "")
				c.Kind = kind
				f.Void(1, c)
				if i%2 == 0 {
					f.Point(true) // asked in between, it changes nothing
				}
			}
			last := uint32(top) + uint32(len(x.mids)) - 1
			points(t, f, true, last, api.Skip{Stream: 1, Mid: x.want})
			points(t, f, false, last, api.Skip{Stream: 1, Mid: x.want})
		}
	}
}

// P15.6

func TestCounts(t *testing.T) {
	for _, first := range firsts {
		f := New(first)
		f.Send(1, until(5), piece(1, 0, "abc"), 0)
		f.Send(1, until(5), piece(1, 0, ""), 0)
		f.Send(2, times(1), piece(1, 1, "de"), 0)
		f.Send(3, always, piece(1, 2, "f"), 0)
		has(t, f, first-1, first+4, 6, 4)
		f.Late()
		has(t, f, first-1, first+4, 0, 4)
		f.Again(1)
		has(t, f, first-1, first+4, 3, 4)
		f.Again(1)
		f.Again(1)
		has(t, f, first-1, first+4, 5, 4)
		f.Expire(6)
		has(t, f, first-1, first+4, 2, 2)
		f.Ack(sack(first-1, gap(3, 3)), 7)
		has(t, f, first-1, first+4, 0, 1)
		f.Void(4, piece(1, 3, "g"))
		has(t, f, first-1, first+5, 0, 1)
		f.Again(8)
		has(t, f, first-1, first+5, 1, 1)
		f.Ack(sack(first+2), 8)
		has(t, f, first+2, first+5, 1, 1)
		f.Ack(sack(first+4), 8)
		has(t, f, first+4, first+5, 0, 0)
	}
}

// spoil all that a chunk refers to, with its spare capacity.
func spoil(c api.Chunk) {
	for _, b := range append([][]byte{c.Body}, values(c)...) {
		b = b[:cap(b)]
		for i := range b {
			b[i] = 99
		}
	}
	for i := range c.Params[:cap(c.Params)] {
		c.Params[:cap(c.Params)][i] = api.Param{Kind: 99}
	}
	for i := range c.Gaps[:cap(c.Gaps)] {
		c.Gaps[:cap(c.Gaps)][i] = gap(99, 99)
	}
	for i := range c.Dups[:cap(c.Dups)] {
		c.Dups[:cap(c.Dups)][i] = 99
	}
	for i := range c.Skips[:cap(c.Skips)] {
		c.Skips[:cap(c.Skips)][i] = api.Skip{Stream: 99}
	}
}

func values(c api.Chunk) [][]byte {
	var vs [][]byte
	for _, p := range c.Params {
		vs = append(vs, p.Value)
	}
	return vs
}

// What is handed in and handed out may be written upon: neither the flight nor another result sees it.
func TestMemoryApart(t *testing.T) {
	f := New(1)
	want := whole()
	want.Tsn = 1
	c := whole()
	got := f.Send(1, always, c, 0)
	spoil(c)
	if fmt.Sprint(got) != fmt.Sprint(want) {
		t.Errorf("Send = %v, want %v", got, want)
	}
	spoil(got)
	for range 3 {
		f.Late()
		got, ok := f.Again(1)
		if !ok || fmt.Sprint(got) != fmt.Sprint(want) {
			t.Errorf("Again = %v, %v, want %v", got, ok, want)
		}
		spoil(got)
	}
}

func TestMemoryOfResults(t *testing.T) {
	f := New(1)
	c := whole()
	f.Void(1, c)
	spoil(c)
	for range 3 {
		got, ok := f.Point(true)
		if !ok || len(got.Skips) != 1 || got.Skips[0] != (api.Skip{Stream: 1, Loose: true, Mid: 2}) {
			t.Errorf("Point = %v, %v", got, ok)
		}
		spoil(got)
	}
	f.Send(3, until(1), piece(1, 0, "x"), 0)
	f.Send(4, until(2), piece(1, 0, "x"), 0)
	told := f.Expire(2)
	for i := range told[:cap(told)] {
		told[:cap(told)][i] = 99
	}
	expires(t, f, 3, 4)
}

// Arguments stay as they are, also beyond their length.
func TestArgumentsStay(t *testing.T) {
	backs := func() api.Chunk {
		c := whole()
		c.Body = append(make([]byte, 0, 20), c.Body...)
		c.Gaps = append(make([]api.Gap, 0, 20), c.Gaps...)
		c.Dups = append(make([]uint32, 0, 20), c.Dups...)
		c.Skips = append(make([]api.Skip, 0, 20), c.Skips...)
		c.Params = append(make([]api.Param, 0, 20), c.Params...)
		return c
	}
	all := func(c api.Chunk) string {
		return fmt.Sprint(c, c.Body[:cap(c.Body)], c.Gaps[:cap(c.Gaps)], c.Dups[:cap(c.Dups)], c.Skips[:cap(c.Skips)], c.Params[:cap(c.Params)])
	}
	f := New(1)
	c := backs()
	want := all(backs())
	f.Send(1, always, c, 0)
	f.Void(1, c)
	f.Ack(c, 0)
	f.Late()
	f.Again(1)
	f.Point(true)
	if all(c) != want {
		t.Errorf("changed: %s, want %s", all(c), want)
	}
	s := sack(0, gap(2, 2))
	s.Gaps = append(make([]api.Gap, 0, 9), s.Gaps...)
	f.Ack(s, 0)
	if fmt.Sprint(s.Gaps[:9]) != fmt.Sprint(append([]api.Gap{gap(2, 2)}, make([]api.Gap, 8)...)) {
		t.Errorf("changed: %v", s.Gaps[:9])
	}
}

// Two flights know nothing of each other.
func TestApart(t *testing.T) {
	f, g := flying(1, 3, until(5)), flying(1, 3, until(5))
	f.Ack(sack(1), 1)
	f.Expire(6)
	f.Point(true)
	has(t, f, 1, 4, 0, 0)
	has(t, g, 0, 4, 3, 3)
	pointsNowhere(t, g)
	expires(t, g, 6, 0, 1, 2)
}

// Many fragments: what each call does must not take as long as going through all of them.

const many = 100000

func TestManyAgain(t *testing.T) {
	f := flying(top-many/2, many, always)
	for range 2 {
		if n := f.Late(); n != many {
			t.Fatalf("Late = %d", n)
		}
		for i := range uint32(many) {
			if c, ok := f.Again(1); !ok || c.Tsn != top-many/2+i {
				t.Fatalf("Again = %d, %v", c.Tsn, ok)
			}
		}
	}
	sendsAgain(t, f, 1)
}

// Every other one is abandoned when it is its turn, and each time Expire and Point are asked.
func TestManyAbandoned(t *testing.T) {
	f := New(1)
	for m := range many {
		f.Send(m, times(uint32(m%2)), piece(uint16(m%5), uint32(m), "x"), 0)
	}
	f.Late()
	for i := 1; i < many; i += 2 {
		if c, ok := f.Again(1); !ok || c.Mid != uint32(i) {
			t.Fatalf("Again = %d, %v, want %d", c.Mid, ok, i)
		}
		if told := f.Expire(1); !slices.Equal(told, []int{i - 1}) {
			t.Fatalf("Expire = %d, want %d", told, i-1)
		}
	}
	f.Late()
	sendsAgain(t, f, 1)
	for range many {
		if c, ok := f.Point(true); !ok || c.Tsn != many || len(c.Skips) != 5 {
			t.Fatalf("Point = %v, %v", c, ok)
		}
	}
	if told := f.Expire(1); len(told) != many/2 {
		t.Errorf("%d messages were told, want %d", len(told), many/2)
	}
}

func TestManyExpire(t *testing.T) {
	f := New(1)
	for m := range many {
		f.Send(many-m, until(uint32(m/(many/10))), piece(1, uint32(m), "x"), 0)
		if told := f.Expire(0); len(told) != 0 {
			t.Fatalf("Expire = %d", told)
		}
	}
	for now := range uint32(11) {
		if told := f.Expire(now); len(told) != many/10 && now > 0 || !slices.IsSorted(told) {
			t.Fatalf("Expire(%d) has %d messages", now, len(told))
		}
	}
	has(t, f, 0, many+1, 0, 0)
}

func TestManyAcks(t *testing.T) {
	f := flying(1, many, until(9))
	for i := range uint32(many) {
		if a := f.Ack(sack(i+1), 1); a.Bytes != 1 {
			t.Fatalf("Ack = %+v", a)
		}
		f.Again(1)
		f.Point(true)
		f.Expire(1)
	}
	has(t, f, many, many+1, 0, 0)
	expires(t, f, 10)
}

// One message of many fragments, abandoned as a whole, and again and again.
func TestManyOfOneMessage(t *testing.T) {
	f := New(1)
	for i := range uint32(many) {
		f.Send(1, times(0), piece(1, i, "x"), 0)
	}
	f.Late()
	sendsAgain(t, f, 1)
	expires(t, f, 1, 1)
	for range many {
		f.Send(1, until(5), piece(1, 0, "x"), 0)
		if f.Ack(sack(f.Next()-1), 1).Bytes != 1 {
			t.Fatal("nothing has arrived")
		}
	}
	has(t, f, 2*many, 2*many+1, 0, 0)
	expires(t, f, 6)
}
