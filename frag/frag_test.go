package frag

import (
	"bytes"
	"fmt"
	"math"
	"math/rand"
	"slices"
	"testing"

	"flume/api"
	"flume/packet"
)

// rooms of both kinds, as the chapter has them.
var rooms = []struct {
	inter bool
	kind  api.ChunkKind
	room  int
}{{true, api.IData, 1168}, {false, api.Data, 1172}}

// Numbers of a message, at the ends of each and in between.
var messages = []api.Message{
	{},
	{Stream: 3, Loose: true, Mid: 65537, Ppid: 51},
	{Stream: 1, Mid: 1, Ppid: 1},
	{Stream: 0x1234, Mid: 0x89ABCDEF, Ppid: 0x13579BDF},
	{Stream: 1, Mid: 65535, Ppid: 1 << 31},
	{Stream: 2, Mid: 65536, Ppid: 1},
	{Stream: 1 << 15, Loose: true, Mid: 1 << 31, Ppid: 0},
	{Stream: math.MaxUint16, Loose: true, Mid: math.MaxUint32, Ppid: math.MaxUint32},
	{Stream: math.MaxUint16, Mid: math.MaxUint32, Ppid: math.MaxUint32},
}

// counted: n bytes no row of which comes again soon.
func counted(n int) []byte {
	b := make([]byte, n)
	for i := range b {
		b[i] = byte(i ^ i>>8*31)
	}
	return b
}

// with a body, the numbers of a message.
func with(m api.Message, body []byte) api.Message {
	m.Body = body
	return m
}

// plainCut is what the chapter says of fragments, each worked out by its own place.
func plainCut(m api.Message, most int, inter bool) []api.Chunk {
	count := len(m.Body) / most
	if len(m.Body)%most != 0 {
		count++
	}
	cut := make([]api.Chunk, count)
	for i := range cut {
		c := &cut[i]
		c.Kind, c.Mid = 0, m.Mid%65536
		if inter {
			c.Kind, c.Mid, c.Frag = 64, m.Mid, uint32(i)
		}
		c.Begin, c.End = i == 0, i == count-1
		c.Loose, c.Stream, c.Ppid = m.Loose, m.Stream, m.Ppid
		last := min((i+1)*most, len(m.Body))
		c.Body = append(c.Body, m.Body[i*most:last]...)
	}
	return cut
}

// same fragments? Whether a list without items is nil doesn't matter.
func same(a, b api.Chunk) bool {
	if !bytes.Equal(a.Body, b.Body) {
		return false
	}
	a.Body, b.Body = nil, nil
	return fmt.Sprint(a) == fmt.Sprint(b)
}

// gives: does Cut answer these fragments?
func gives(t *testing.T, m api.Message, most int, inter bool, want []api.Chunk) {
	t.Helper()
	got, err := Cut(m, most, inter)
	if err != api.OK || len(got) != len(want) {
		t.Errorf("Cut of %d bytes, %d, %v = %d fragments, %v, want %d", len(m.Body), most, inter, len(got), err, len(want))
		return
	}
	for i := range got {
		if !same(got[i], want[i]) {
			t.Errorf("Cut of %d bytes, %d, %v: fragment %d is %.200v, want %.200v", len(m.Body), most, inter, i, got[i], want[i])
			return
		}
	}
}

// refuses: does Cut answer none, and this error?
func refuses(t *testing.T, m api.Message, most int, inter bool, want api.Errno) {
	t.Helper()
	if got, err := Cut(m, most, inter); err != want || len(got) > 0 {
		t.Errorf("Cut of %d bytes, %d, %v = %d fragments, %v, want none, %v", len(m.Body), most, inter, len(got), err, want)
	}
}

// The chapter's example

func TestExample(t *testing.T) {
	gives(t, api.Message{Body: []byte("abcde")}, 2, true, []api.Chunk{
		{Kind: api.IData, Begin: true, Body: []byte("ab")},
		{Kind: api.IData, Frag: 1, Body: []byte("cd")},
		{Kind: api.IData, Frag: 2, End: true, Body: []byte("e")},
	})
}

// P12.1: the fragments

func TestCutData(t *testing.T) {
	m := api.Message{Stream: 3, Loose: true, Mid: 65537, Ppid: 51, Body: []byte("abcde")}
	part := api.Chunk{Kind: api.Data, Loose: true, Stream: 3, Mid: 1, Ppid: 51}
	ab, cd, e := part, part, part
	ab.Begin, ab.Body = true, []byte("ab")
	cd.Body = []byte("cd")
	e.End, e.Body = true, []byte("e")
	gives(t, m, 2, false, []api.Chunk{ab, cd, e})
}

func TestCutIData(t *testing.T) {
	m := api.Message{Stream: 3, Loose: true, Mid: 65537, Ppid: 51, Body: []byte("abcde")}
	part := api.Chunk{Kind: api.IData, Loose: true, Stream: 3, Mid: 65537, Ppid: 51}
	abc, de := part, part
	abc.Begin, abc.Body = true, []byte("abc")
	de.Frag, de.End, de.Body = 1, true, []byte("de")
	gives(t, m, 3, true, []api.Chunk{abc, de})
}

// A message of one fragment begins and ends with it.
func TestCutOne(t *testing.T) {
	for _, x := range rooms {
		for _, n := range []int{1, 2, 5, x.room - 1, x.room} {
			for _, most := range []int{n, min(n+1, x.room), x.room} {
				body := counted(n)
				gives(t, api.Message{Stream: 1, Mid: 2, Ppid: 3, Body: body}, most, x.inter,
					[]api.Chunk{{Kind: x.kind, Begin: true, End: true, Stream: 1, Mid: 2, Ppid: 3, Body: body}})
			}
		}
	}
}

// The numbers of a message are those of each of its fragments.
func TestCutNumbers(t *testing.T) {
	for _, m := range messages {
		for _, x := range rooms {
			for _, n := range []int{1, 2, 3, 7, 8, 9, 100} {
				for _, most := range []int{1, 2, 3, 8, 99, 100, 101} {
					m := with(m, counted(n))
					gives(t, m, most, x.inter, plainCut(m, most, x.inter))
				}
			}
		}
	}
}

// How many bytes each fragment has, where they come out even and where they do not.
func TestCutSizes(t *testing.T) {
	for _, x := range []struct{ n, most, count, last int }{
		{1, 1, 1, 1}, {2, 1, 2, 1}, {3, 2, 2, 1}, {4, 2, 2, 2}, {5, 2, 3, 1}, {5, 4, 2, 1}, {5, 5, 1, 5}, {5, 6, 1, 5},
		{1167, 1168, 1, 1167}, {1168, 1168, 1, 1168}, {1169, 1168, 2, 1}, {2335, 1168, 2, 1167}, {2336, 1168, 2, 1168},
		{2337, 1168, 3, 1}, {65535, 1168, 57, 127}, {65536, 1168, 57, 128}, {65536, 1024, 64, 1024}, {65536, 2, 32768, 2},
		{65535, 2, 32768, 1}, {65536, 1, 65536, 1}, {65536, 1167, 57, 184},
	} {
		for _, inter := range []bool{true, false} {
			cut, err := Cut(with(messages[3], counted(x.n)), x.most, inter)
			if err != api.OK || len(cut) != x.count {
				t.Errorf("Cut of %d bytes, %d = %d fragments, %v, want %d", x.n, x.most, len(cut), err, x.count)
				continue
			}
			for i, c := range cut {
				want := x.most
				if i == x.count-1 {
					want = x.last
				}
				if len(c.Body) != want {
					t.Errorf("Cut of %d bytes, %d: fragment %d has %d bytes, want %d", x.n, x.most, i, len(c.Body), want)
				}
			}
		}
	}
}

// The index of a fragment reaches from 0 to 65535.
func TestCutMany(t *testing.T) {
	for _, m := range messages {
		for _, x := range rooms {
			m := with(m, counted(65536))
			gives(t, m, x.room, x.inter, plainCut(m, x.room, x.inter))
		}
	}
	for _, inter := range []bool{true, false} {
		m := with(messages[3], counted(65536))
		gives(t, m, 1, inter, plainCut(m, 1, inter))
	}
}

func TestCutAtRandom(t *testing.T) {
	r := rand.New(rand.NewSource(12))
	for range 2000 {
		x := rooms[r.Intn(2)]
		body := make([]byte, 1+r.Intn(1<<r.Intn(17)))
		r.Read(body)
		m := api.Message{Stream: uint16(r.Uint32()), Loose: r.Intn(2) == 0, Mid: r.Uint32(), Ppid: r.Uint32(), Body: body}
		most := 1 + r.Intn(x.room)
		gives(t, m, most, x.inter, plainCut(m, most, x.inter))
	}
}

// P12.1: the errors

func TestCutMost(t *testing.T) {
	for _, x := range rooms {
		for _, most := range []int{math.MinInt, math.MinInt32, -x.room, -2, -1, 0, x.room + 1, x.room + 2, 1200, 65536, math.MaxInt32, 1 << 32, 1<<32 + 1, math.MaxInt} {
			for _, n := range []int{1, 2, 1173, 65536} {
				refuses(t, with(messages[1], counted(n)), most, x.inter, api.ErrArg)
			}
		}
		for _, most := range []int{1, 2, x.room - 1, x.room} {
			m := with(messages[1], counted(1173))
			gives(t, m, most, x.inter, plainCut(m, most, x.inter))
		}
	}
}

func TestCutNothing(t *testing.T) {
	for _, m := range messages {
		for _, x := range rooms {
			for _, most := range []int{1, 2, x.room} {
				refuses(t, m, most, x.inter, api.ErrForm)
				refuses(t, with(m, []byte{}), most, x.inter, api.ErrForm)
				refuses(t, with(m, counted(9)[:0]), most, x.inter, api.ErrForm)
			}
		}
	}
}

func TestCutLong(t *testing.T) {
	for _, m := range messages {
		for _, x := range rooms {
			for _, n := range []int{65537, 65538, 1 << 17, 1 << 20} {
				for _, most := range []int{1, 2, x.room} {
					refuses(t, with(m, make([]byte, n)), most, x.inter, api.ErrLong)
				}
			}
		}
	}
}

// The room is the first thing that is looked at.
func TestCutFirstError(t *testing.T) {
	for _, x := range rooms {
		for _, most := range []int{math.MinInt, -1, 0, x.room + 1, math.MaxInt} {
			refuses(t, api.Message{}, most, x.inter, api.ErrArg)
			refuses(t, api.Message{Body: make([]byte, 65537)}, most, x.inter, api.ErrArg)
		}
	}
}

// P12.1: new memory

// A body that is written into afterwards changes no fragment, nor does a fragment change the body.
func TestCutIsNew(t *testing.T) {
	for _, x := range rooms {
		for _, n := range []int{1, 5, 10, 1168} {
			for _, most := range []int{1, 2, 5, 1168} {
				whole := counted(n + 50)
				m := with(messages[3], whole[10:10+n])
				cut, _ := Cut(m, most, x.inter)
				want := plainCut(m, most, x.inter)
				for i := range whole {
					whole[i] ^= 255
				}
				before := slices.Clone(whole)
				if !slices.EqualFunc(cut, want, same) {
					t.Errorf("%d bytes, %d: the fragments have the bytes of the body", n, most)
				}
				spoil(cut)
				if !bytes.Equal(whole, before) {
					t.Errorf("%d bytes, %d: the body has the bytes of the fragments", n, most)
				}
			}
		}
	}
}

// spoil fragments: all that is theirs, and the room behind it.
func spoil(cut []api.Chunk) {
	for i := range cut {
		body := cut[i].Body[:cap(cut[i].Body)]
		for j := range body {
			body[j] ^= 255
		}
	}
	cut = cut[:cap(cut)]
	for i := range cut {
		cut[i] = api.Chunk{Kind: 99}
	}
}

// What is written into one fragment, or behind its bytes, is seen in no other.
func TestCutApart(t *testing.T) {
	for _, x := range rooms {
		for _, most := range []int{1, 2, 3, 8, 1000} {
			m := with(messages[3], counted(2345))
			for i := range plainCut(m, most, x.inter)[:3] {
				cut, _ := Cut(m, most, x.inter)
				want := plainCut(m, most, x.inter)
				other := []api.Chunk{cut[i]}
				spoil(other[:1:1])
				cut = slices.Delete(cut, i, i+1)
				want = slices.Delete(want, i, i+1)
				if !slices.EqualFunc(cut, want, same) {
					t.Errorf("most %d: fragment %d has bytes of others", most, i)
				}
			}
		}
	}
}

// A call leaves its message alone, and nothing of it is in what the next call answers.
func TestCutAgain(t *testing.T) {
	for _, x := range rooms {
		whole := counted(5000)
		before := slices.Clone(whole)
		m := with(messages[3], whole[100:4000])
		want := plainCut(m, 1000, x.inter)
		for range 3 {
			cut, err := Cut(m, 1000, x.inter)
			if err != api.OK || !slices.EqualFunc(cut, want, same) {
				t.Fatalf("Cut again, %v: %v", x.inter, err)
			}
			spoil(cut)
			refuses(t, m, 0, x.inter, api.ErrArg)
			refuses(t, api.Message{}, 1, x.inter, api.ErrForm)
		}
		if !bytes.Equal(whole, before) {
			t.Errorf("%v: Cut changed its message", x.inter)
		}
	}
}

// P12.2

func TestRoom(t *testing.T) {
	for _, x := range rooms {
		if got := Room(x.inter); got != x.room {
			t.Errorf("Room(%v) = %d, want %d", x.inter, got, x.room)
		}
		c := api.Chunk{Kind: x.kind, Body: counted(x.room)}
		b, err := packet.Put(api.Packet{Chunks: []api.Chunk{c}})
		if err != api.OK || len(b) != 1200 {
			t.Errorf("a packet of %d bytes of a body has %d bytes, %v", x.room, len(b), err)
		}
		c.Body = counted(x.room + 1)
		if _, err := packet.Put(api.Packet{Chunks: []api.Chunk{c}}); err != api.ErrLong {
			t.Errorf("a packet of %d bytes of a body: %v", x.room+1, err)
		}
	}
}

// P12.3

// Each fragment is a packet, and the fragments that are read from these have the body.
func TestCutToPackets(t *testing.T) {
	for _, m := range messages {
		for _, x := range rooms {
			for _, n := range []int{1, 2, 3, 4, 5, 1167, 1168, 1169, 1172, 1173, 65535, 65536} {
				for _, most := range []int{101, 1165, 1166, 1167, 1168, x.room} {
					throughPackets(t, with(m, counted(n)), most, x.inter)
				}
			}
		}
	}
	throughPackets(t, with(messages[7], counted(3000)), 1, true)
	throughPackets(t, with(messages[7], counted(3000)), 1, false)
}

func throughPackets(t *testing.T, m api.Message, most int, inter bool) {
	t.Helper()
	cut, err := Cut(m, most, inter)
	if err != api.OK {
		t.Fatalf("Cut: %v", err)
	}
	var body []byte
	for i, c := range cut {
		b, err := packet.Put(api.Packet{From: 5000, To: 5000, Tag: 1, Chunks: []api.Chunk{c}})
		if err != api.OK || len(b) > 1200 {
			t.Fatalf("%d bytes, most %d: the packet of fragment %d has %d bytes, %v", len(m.Body), most, i, len(b), err)
		}
		p, err := packet.Get(b)
		if err != api.OK || len(p.Chunks) != 1 {
			t.Fatalf("%d bytes, most %d: the packet of fragment %d: %v", len(m.Body), most, i, err)
		}
		body = append(body, p.Chunks[0].Body...)
	}
	if !bytes.Equal(body, m.Body) {
		t.Errorf("%d bytes, most %d: the fragments have other bytes", len(m.Body), most)
	}
}

// The iterator: one that is broken off yields no more.
func TestPiecesBrokenOff(t *testing.T) {
	for stop := range 4 {
		var got []string
		for i, piece := range pieces([]byte("abcdefg"), 2) {
			got = append(got, fmt.Sprintf("%d %s", i, piece))
			if i == stop {
				break
			}
		}
		if want := []string{"0 ab", "1 cd", "2 ef", "3 g"}[:stop+1]; !slices.Equal(got, want) {
			t.Errorf("pieces up to %d: %v, want %v", stop, got, want)
		}
	}
}
