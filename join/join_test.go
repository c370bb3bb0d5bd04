package join

import (
	"bytes"
	"fmt"
	"math"
	"math/rand"
	"slices"
	"strings"
	"testing"

	"flume/api"
	"flume/frag"
)

// flagged: B begins, E ends, U is loose.
func flagged(c api.Chunk, flags string) api.Chunk {
	c.Begin, c.End, c.Loose = strings.Contains(flags, "B"), strings.Contains(flags, "E"), strings.Contains(flags, "U")
	return c
}

func data(tsn uint32, flags string, stream uint16, mid uint32, body string) api.Chunk {
	return flagged(api.Chunk{Kind: api.Data, Tsn: tsn, Stream: stream, Mid: mid, Ppid: 51, Body: []byte(body)}, flags)
}

func idata(index uint32, flags string, stream uint16, mid uint32, body string) api.Chunk {
	return flagged(api.Chunk{Kind: api.IData, Frag: index, Stream: stream, Mid: mid, Ppid: 51, Body: []byte(body)}, flags)
}

// one is a message of one fragment, of either kind. For Data its Tsn is far from those of others.
func one(inter bool, stream uint16, mid uint32, body string) api.Chunk {
	if inter {
		return idata(0, "BE", stream, mid, body)
	}
	return data(uint32(stream)<<20+mid*10, "BE", stream, mid, body)
}

// puts: does the joiner take all of these?
func puts(t *testing.T, j *Joiner, cs ...api.Chunk) {
	t.Helper()
	for _, c := range cs {
		held := j.Held()
		if !j.Put(c) {
			t.Errorf("Put of %+v = false", c)
		} else if held += len(c.Body); j.Held() > held {
			t.Errorf("%d bytes are held, want %d", j.Held(), held)
		}
	}
}

// refuses: does the joiner take none of these?
func refuses(t *testing.T, j *Joiner, cs ...api.Chunk) {
	t.Helper()
	for _, c := range cs {
		held := j.Held()
		if j.Put(c) {
			t.Errorf("Put of %+v = true", c)
		}
		if j.Held() != held {
			t.Errorf("%d bytes are held, want %d as before", j.Held(), held)
		}
	}
}

// takes: are the messages with these bodies ready, and no other?
func takes(t *testing.T, j *Joiner, want ...string) {
	t.Helper()
	for _, w := range want {
		held := j.Held()
		if m, ok := j.Take(); !ok || string(m.Body) != w || j.Held() != held-len(w) {
			t.Errorf("Take = %.100q, %v, and then %d bytes are held, want %.100q, true, %d", m.Body, ok, j.Held(), w, held-len(w))
		}
	}
	if m, ok := j.Take(); ok || m.Body != nil || fmt.Sprint(m) != fmt.Sprint(api.Message{}) {
		t.Errorf("Take = %+v, %v, want none", m, ok)
	}
}

func holds(t *testing.T, j *Joiner, want int) {
	t.Helper()
	if got := j.Held(); got != want {
		t.Errorf("%d bytes are held, want %d", got, want)
	}
}

// both kinds of joiners.
var both = []bool{true, false}

// The chapter's example

func TestExample(t *testing.T) {
	j := New(true)
	puts(t, j, idata(0, "BE", 1, 1, "next"))
	takes(t, j)
	puts(t, j, idata(0, "B", 1, 0, "a"), idata(1, "E", 1, 0, "b"))
	m, ok := j.Take()
	if !ok || m.Mid != 0 || string(m.Body) != "ab" {
		t.Errorf("Take = %+v, %v", m, ok)
	}
	m, ok = j.Take()
	if !ok || m.Mid != 1 || string(m.Body) != "next" {
		t.Errorf("Take = %+v, %v", m, ok)
	}
	takes(t, j)
	holds(t, j, 0)
}

// P13.1: what Put does not take

func TestPutOtherKinds(t *testing.T) {
	for kind := range 256 {
		for _, inter := range both {
			j := New(inter)
			c := one(inter, 1, 0, "x")
			good := c.Kind
			c.Kind = api.ChunkKind(kind)
			if c.Kind == good {
				puts(t, j, c)
				takes(t, j, "x")
			} else {
				refuses(t, j, c)
				takes(t, j)
			}
		}
	}
}

func TestPutNoBody(t *testing.T) {
	for _, inter := range both {
		for _, flags := range []string{"BE", "BEU", "B", "BU"} {
			j := New(inter)
			c := flagged(one(inter, 1, 0, ""), flags)
			refuses(t, j, c)
			c.Body = nil
			refuses(t, j, c)
			c.Body = make([]byte, 0, 9)
			refuses(t, j, c)
			takes(t, j)
			c.Body = []byte{0}
			puts(t, j, c)
		}
	}
}

func TestPutPassed(t *testing.T) {
	for _, inter := range both {
		j := New(inter)
		for mid := range uint32(3) {
			puts(t, j, one(inter, 1, mid, "m"))
		}
		for mid := range uint32(3) {
			refuses(t, j, one(inter, 1, mid, "again"), flagged(one(inter, 1, mid, "again"), "B"))
			if inter {
				refuses(t, j, idata(1, "", 1, mid, "again"), idata(1, "E", 1, mid, "again"))
			}
		}
		takes(t, j, "m", "m", "m")
		for mid := range uint32(3) {
			refuses(t, j, one(inter, 1, mid, "again"))
			puts(t, j, one(inter, 2, mid, "other stream"), flagged(one(inter, 3, mid, "loose"), "BEU"))
		}
	}
}

// A message that waits, or is passed, takes no fragment any more; a loose one of the same number does.
func TestPutWaits(t *testing.T) {
	for _, inter := range both {
		j := New(inter)
		puts(t, j, one(inter, 1, 5, "five"))
		again := one(inter, 1, 5, "again")
		again.Tsn += 3
		refuses(t, j, again, flagged(again, "B"))
		again.Frag = 1
		refuses(t, j, flagged(again, ""), flagged(again, "E"))
		again.Frag = 0
		puts(t, j, flagged(again, "BEU"))
		takes(t, j, "again")
		holds(t, j, 4)
	}
}

// The number behind the next one is less, that half the range ahead is not.
func TestPutLess(t *testing.T) {
	for _, x := range []struct {
		inter bool
		mid   uint32
		want  bool
	}{
		{true, math.MaxUint32, false}, {true, 1<<31 + 1, false}, {true, 1 << 31, true}, {true, 1<<31 - 1, true},
		{true, 65535, true}, {true, 1<<15 + 1, true}, {true, 1 << 16, true}, {true, 1 << 15, true},
		{false, 65535, false}, {false, 1<<15 + 1, false}, {false, 1 << 15, true}, {false, 1<<15 - 1, true},
		{false, math.MaxUint32, false}, {false, 1 << 31, true}, {false, 1<<31 + 1<<15 + 1, false}, {false, 65536, true},
		{false, 1<<31 - 1, false}, {true, 0, true}, {false, 0, true}, {true, 1, true}, {false, 1, true},
	} {
		j := New(x.inter)
		c := one(x.inter, 1, x.mid, "x")
		if got := j.Put(c); got != x.want {
			t.Errorf("Put of %d with inter %v = %v, want %v", x.mid, x.inter, got, x.want)
		}
		puts(t, j, flagged(one(x.inter, 2, x.mid, "loose"), "BEU"))
	}
}

// The next number goes round, wherever it is.
func TestPutLessAround(t *testing.T) {
	for _, x := range []struct {
		inter bool
		last  uint32
	}{{true, math.MaxUint32}, {false, 65535}} {
		for _, next := range []uint32{1, 9, x.last/2 + 1, x.last/2 + 2, x.last - 1, x.last} {
			for _, ahead := range []uint32{0, 1, 2, x.last / 2, x.last/2 + 1, x.last/2 + 2, x.last - 1, x.last} {
				j := at(x.inter, 7, next)
				mid := next + ahead
				if !x.inter {
					mid %= 65536
				}
				want := ahead <= x.last/2+1
				if got := j.Put(one(x.inter, 7, mid, "x")); got != want {
					t.Errorf("inter %v, next %d: Put of %d = %v, want %v", x.inter, next, mid, got, want)
				}
			}
		}
	}
}

// at: a joiner with a stream whose next number is this. It is no more than half the range away at a time.
func at(inter bool, stream uint16, next uint32) *Joiner {
	j := New(inter)
	if next > 0 {
		j.Skip(api.Skip{Stream: stream, Mid: next / 2})
		j.Skip(api.Skip{Stream: stream, Mid: next - 1})
	}
	return j
}

func TestPutFragOfIData(t *testing.T) {
	for _, x := range []struct {
		index uint32
		flags string
		want  bool
	}{
		{0, "B", true}, {0, "BE", true}, {0, "", false}, {0, "E", false}, {1, "B", false}, {1, "BE", false}, {1, "", true},
		{1, "E", true}, {65535, "", true}, {65535, "E", true}, {65535, "B", false}, {65536, "", false}, {65536, "E", false},
		{65536, "B", false}, {65537, "", false}, {1 << 31, "", false}, {math.MaxUint32, "", false}, {math.MaxUint32, "E", false},
	} {
		for _, loose := range []string{"", "U"} {
			j := New(true)
			c := idata(x.index, x.flags+loose, 1, 0, "x")
			if got := j.Put(c); got != x.want {
				t.Errorf("Put of %d %s%s = %v, want %v", x.index, x.flags, loose, got, x.want)
			}
			held := 0
			if x.want {
				held = 1
			}
			holds(t, j, held)
		}
	}
}

// Data has no rule of that kind, nor does its Frag count; an IData's Tsn does not.
func TestPutWhatDoesNotCount(t *testing.T) {
	j := New(false)
	b, e := data(5, "B", 1, 0, "a"), data(6, "E", 1, 0, "b")
	b.Frag, e.Frag = 70000, 0
	puts(t, j, b, e)
	takes(t, j, "ab")
	j = New(true)
	b, e = idata(0, "B", 1, 0, "a"), idata(1, "E", 1, 0, "b")
	b.Tsn, e.Tsn = 9, 9
	puts(t, j, b, e)
	takes(t, j, "ab")
}

func TestPutSameFrag(t *testing.T) {
	j := New(true)
	puts(t, j, idata(0, "B", 1, 0, "a"), idata(2, "", 1, 0, "c"), idata(4, "E", 1, 0, "e"))
	refuses(t, j, idata(0, "B", 1, 0, "x"), idata(0, "BE", 1, 0, "x"), idata(2, "", 1, 0, "x"), idata(2, "E", 1, 0, "x"), idata(4, "", 1, 0, "x"))
	puts(t, j, idata(0, "B", 2, 0, "other stream"), idata(0, "BU", 1, 0, "loose"), idata(0, "B", 1, 1, "other message"))
	puts(t, j, idata(1, "", 1, 0, "b"))
	takes(t, j)
	puts(t, j, idata(3, "", 1, 0, "d"))
	takes(t, j, "abcde")
}

func TestPutSameTsn(t *testing.T) {
	j := New(false)
	puts(t, j, data(10, "B", 1, 0, "a"))
	refuses(t, j, data(10, "B", 1, 0, "x"), data(10, "BE", 1, 0, "x"), data(10, "E", 2, 7, "x"), data(10, "BEU", 3, 0, "x"))
	puts(t, j, data(11, "E", 1, 0, "b"))
	takes(t, j, "ab")
	// What is a message now is no fragment any more.
	puts(t, j, data(10, "BE", 2, 0, "c"), data(11, "BEU", 2, 0, "d"))
	takes(t, j, "c", "d")
}

// P13.1: messages that are complete

func TestMessageOfBegin(t *testing.T) {
	for _, x := range []struct {
		inter bool
		mid   uint32
	}{{true, 0}, {true, 70000}, {false, 0}, {false, 4464}} {
		for _, loose := range []bool{true, false} {
			j := at(x.inter, 9, x.mid)
			b := api.Chunk{Kind: api.Data, Begin: true, Loose: loose, Tsn: 7, Stream: 9, Mid: x.mid, Ppid: 1 << 31, Body: []byte("a")}
			e := api.Chunk{Kind: api.Data, End: true, Loose: loose, Tsn: 8, Stream: 9, Mid: x.mid, Ppid: 53, Frag: 1, Body: []byte("b")}
			if x.inter {
				b.Kind, e.Kind = api.IData, api.IData
			} else {
				b.Mid += 65536 * 3
				e.Mid += 65536 * 3
			}
			puts(t, j, e, b)
			m, ok := j.Take()
			want := api.Message{Stream: 9, Loose: loose, Mid: x.mid, Ppid: 1 << 31, Body: []byte("ab")}
			if !ok || fmt.Sprint(m) != fmt.Sprint(want) {
				t.Errorf("Take = %+v, %v, want %+v", m, ok, want)
			}
		}
	}
}

// In whatever order fragments come, the last one of them makes the message.
func TestFragmentsInAnyOrder(t *testing.T) {
	for _, inter := range both {
		for _, loose := range []bool{true, false} {
			cut := fragments(t, api.Message{Stream: 1, Loose: loose, Body: []byte("abcdefg")}, 2, inter, math.MaxUint32-1)
			for _, order := range orders(len(cut)) {
				j := New(inter)
				for n, i := range order {
					takes(t, j)
					holds(t, j, heldOf(cut, order[:n]))
					puts(t, j, cut[i])
				}
				takes(t, j, "abcdefg")
				holds(t, j, 0)
			}
		}
	}
}

// fragments of a message, numbered from a Tsn on.
func fragments(t *testing.T, m api.Message, most int, inter bool, tsn uint32) []api.Chunk {
	t.Helper()
	cut, err := frag.Cut(m, most, inter)
	if err != api.OK {
		t.Fatal(err)
	}
	for i := range cut {
		cut[i].Tsn = tsn + uint32(i)
	}
	return cut
}

func heldOf(cut []api.Chunk, which []int) int {
	n := 0
	for _, i := range which {
		n += len(cut[i].Body)
	}
	return n
}

// orders: all ways to put n things in a row.
func orders(n int) [][]int {
	if n == 0 {
		return [][]int{nil}
	}
	var all [][]int
	for _, o := range orders(n - 1) {
		for i := range n {
			all = append(all, slices.Insert(slices.Clone(o), i, n-1))
		}
	}
	return all
}

// What comes behind the first End of an IData message goes with it, whether it ends too or not.
func TestBehindTheEnd(t *testing.T) {
	j := New(true)
	puts(t, j, idata(3, "", 1, 0, "d"), idata(5, "E", 1, 0, "ff"), idata(65535, "E", 1, 0, "last"), idata(2, "E", 1, 0, "c"),
		idata(0, "B", 1, 0, "a"), idata(5, "", 1, 1, "other"), idata(5, "U", 1, 0, "loose"), idata(5, "", 2, 0, "stream"))
	takes(t, j)
	puts(t, j, idata(1, "", 1, 0, "b"))
	holds(t, j, len("abc")+len("other")+len("loose")+len("stream"))
	takes(t, j, "abc")
	holds(t, j, len("other")+len("loose")+len("stream"))
	// The loose message of a number may come anew.
	puts(t, j, idata(0, "BEU", 3, 4, "x"), idata(1, "EU", 3, 4, "z"), idata(0, "BU", 3, 4, "y"))
	takes(t, j, "x", "yz")
}

// An End that comes after a later End is the one that counts.
func TestEarlierEnd(t *testing.T) {
	j := New(true)
	puts(t, j, idata(0, "BU", 1, 0, "a"), idata(1, "U", 1, 0, "b"), idata(4, "EU", 1, 0, "e"), idata(3, "U", 1, 0, "d"), idata(2, "EU", 1, 0, "c"))
	takes(t, j, "abc")
	holds(t, j, 0)
}

// Fragments behind an End are none of the message's, though all of them stand in a row.
func TestRowOverTheEnd(t *testing.T) {
	j := New(true)
	puts(t, j, idata(1, "E", 1, 0, "b"), idata(2, "", 1, 0, "c"), idata(3, "E", 1, 0, "d"))
	takes(t, j)
	holds(t, j, 3)
	puts(t, j, idata(0, "B", 1, 0, "a"))
	takes(t, j, "ab")
	holds(t, j, 0)
}

// Data: of a row with two Begins, the message is from the later one on.
func TestAnotherBegin(t *testing.T) {
	j := New(false)
	puts(t, j, data(10, "B", 1, 0, "a"), data(11, "", 1, 0, "b"), data(13, "E", 1, 0, "d"), data(12, "B", 1, 0, "c"))
	takes(t, j, "cd")
	holds(t, j, 2)
	// The rest has no End, and the number is passed.
	refuses(t, j, data(12, "E", 1, 0, "c"), data(12, "", 1, 0, "c"))
	j.Pass(12)
	holds(t, j, 0)
}

func TestBeginBetween(t *testing.T) {
	j := New(false)
	puts(t, j, data(10, "BU", 1, 0, "a"), data(12, "BU", 1, 0, "c"), data(14, "EU", 1, 0, "e"), data(11, "U", 1, 0, "b"))
	takes(t, j)
	holds(t, j, 4)
	puts(t, j, data(13, "U", 1, 0, "d"))
	takes(t, j, "cde")
	puts(t, j, data(12, "EU", 1, 0, "x"))
	takes(t, j, "abx")
}

// Data: what is from a Begin to the next End is a message, and the rest stays.
func TestNextEnd(t *testing.T) {
	j := New(false)
	puts(t, j, data(11, "EU", 1, 0, "b"), data(12, "U", 1, 0, "c"), data(13, "EU", 1, 0, "d"), data(9, "U", 1, 0, "z"), data(8, "BU", 1, 0, "y"))
	takes(t, j)
	puts(t, j, data(10, "BU", 1, 0, "a"))
	takes(t, j, "ab")
	holds(t, j, 4)
	puts(t, j, data(11, "BU", 1, 0, "b"))
	takes(t, j, "bcd")
	puts(t, j, data(10, "EU", 1, 0, "x"))
	takes(t, j, "yzx")
	holds(t, j, 0)
}

// One fragment that is a message by itself parts a row.
func TestWholeInARow(t *testing.T) {
	j := New(false)
	puts(t, j, data(10, "BU", 1, 0, "a"), data(12, "EU", 1, 0, "c"), data(11, "BEU", 1, 0, "b"))
	takes(t, j, "b")
	holds(t, j, 2)
	puts(t, j, data(11, "U", 1, 0, "x"))
	takes(t, j, "axc")
}

// Data: fragments in a row that differ in what belongs to a message are none.
func TestNotTogether(t *testing.T) {
	for _, x := range []struct {
		b, m, e api.Chunk
		want    bool
	}{
		{data(10, "B", 1, 0, "a"), data(11, "", 1, 0, "b"), data(12, "E", 1, 0, "c"), true},
		{data(10, "B", 1, 0, "a"), data(11, "", 2, 0, "b"), data(12, "E", 1, 0, "c"), false},
		{data(10, "B", 1, 0, "a"), data(11, "", 1, 0, "b"), data(12, "E", 2, 0, "c"), false},
		{data(10, "B", 1, 0, "a"), data(11, "U", 1, 0, "b"), data(12, "E", 1, 0, "c"), false},
		{data(10, "BU", 1, 0, "a"), data(11, "U", 1, 0, "b"), data(12, "E", 1, 0, "c"), false},
		{data(10, "B", 1, 0, "a"), data(11, "", 1, 1, "b"), data(12, "E", 1, 0, "c"), false},
		{data(10, "B", 1, 0, "a"), data(11, "", 1, 0, "b"), data(12, "E", 1, 1, "c"), false},
		{data(10, "BU", 1, 3, "a"), data(11, "U", 1, 1, "b"), data(12, "EU", 1, 9, "c"), true},
		{data(10, "BU", 1, 3, "a"), data(11, "U", 1, 1, "b"), data(12, "EU", 2, 9, "c"), false},
		{data(10, "B", 1, 65536, "a"), data(11, "", 1, 0, "b"), data(12, "E", 1, 1<<20, "c"), true},
		{data(10, "B", 1, 0, "a"), data(11, "", 1, 0, "b"), data(13, "E", 1, 0, "c"), false},
		{data(10, "B", 1, 0, "a"), data(11, "", 1, 0, "b"), data(9, "E", 1, 0, "c"), false},
		{data(math.MaxUint32-1, "B", 1, 0, "a"), data(math.MaxUint32, "", 1, 0, "b"), data(0, "E", 1, 0, "c"), true},
		{data(math.MaxUint32, "B", 1, 0, "a"), data(0, "", 1, 0, "b"), data(1, "E", 1, 0, "c"), true},
	} {
		cut := []api.Chunk{x.b, x.m, x.e}
		for _, order := range orders(3) {
			j := New(false)
			for _, i := range order {
				puts(t, j, cut[i])
			}
			holds(t, j, 3)
			if x.want {
				takes(t, j, "abc")
			} else {
				takes(t, j)
			}
		}
	}
}

func TestLooseMid(t *testing.T) {
	j := New(false)
	puts(t, j, data(10, "BU", 1, 65536*7+3, "a"), data(11, "EU", 1, 9, "b"))
	if m, ok := j.Take(); !ok || m.Mid != 3 || !m.Loose {
		t.Errorf("Take = %+v, %v", m, ok)
	}
}

// P13.1: the order

func TestOrder(t *testing.T) {
	for _, inter := range both {
		for _, order := range orders(5) {
			j := New(inter)
			came, next := map[int]bool{}, 0
			for _, mid := range order {
				puts(t, j, one(inter, 4, uint32(mid), fmt.Sprint(mid)))
				came[mid] = true
				var want []string
				for ; came[next]; next++ {
					want = append(want, fmt.Sprint(next))
				}
				takes(t, j, want...)
				holds(t, j, len(came)-next)
			}
		}
	}
}

// A loose message is ready at once, after those that are ready already; streams do not wait for each other.
func TestReadyInOrder(t *testing.T) {
	for _, inter := range both {
		j := New(inter)
		loose := func(stream uint16, mid uint32, body string) api.Chunk {
			c := flagged(one(inter, stream, mid, body), "BEU")
			c.Tsn += 5
			return c
		}
		puts(t, j, one(inter, 1, 1, "b"), loose(1, 9, "loose"), one(inter, 2, 0, "two"), loose(1, 2, "looser"), one(inter, 1, 0, "a"),
			loose(2, 0, "last"), one(inter, 1, 2, "c"))
		takes(t, j, "loose", "two", "looser", "a", "b", "last", "c")
		holds(t, j, 0)
	}
}

func TestNextGoesRound(t *testing.T) {
	for _, x := range []struct {
		inter bool
		last  uint32
	}{{true, math.MaxUint32}, {false, 65535}} {
		j := at(x.inter, 3, x.last)
		puts(t, j, one(x.inter, 3, 1, "c"), one(x.inter, 3, 0, "b"))
		takes(t, j)
		puts(t, j, one(x.inter, 3, x.last, "a"))
		takes(t, j, "a", "b", "c")
		refuses(t, j, one(x.inter, 3, x.last, "a"), one(x.inter, 3, 0, "b"), one(x.inter, 3, 1, "c"))
		puts(t, j, one(x.inter, 3, 2, "d"))
		takes(t, j, "d")
	}
}

// All numbers of Data, once round and on.
func TestAllShortNumbers(t *testing.T) {
	j := New(false)
	for n := range uint32(70000) {
		c := data(n, "BE", 1, n, "x")
		if !j.Put(c) {
			t.Fatalf("Put of %d = false", n)
		}
		if m, ok := j.Take(); !ok || m.Mid != n%65536 {
			t.Fatalf("Take = %+v, %v", m, ok)
		}
	}
}

// P13.2

func TestTakeNone(t *testing.T) {
	for _, inter := range both {
		j := New(inter)
		takes(t, j)
		takes(t, j)
		holds(t, j, 0)
		puts(t, j, one(inter, 1, 1, "waits"))
		takes(t, j)
		puts(t, j, flagged(one(inter, 1, 2, "half"), "B"))
		takes(t, j)
		holds(t, j, 9)
	}
}

func TestHeld(t *testing.T) {
	for _, inter := range both {
		j := New(inter)
		puts(t, j, one(inter, 1, 1, "waits"), flagged(one(inter, 2, 0, "half"), "B"), flagged(one(inter, 3, 0, "loose"), "BEU"), one(inter, 4, 0, "ready"))
		holds(t, j, 19)
		takes(t, j, "loose", "ready")
		holds(t, j, 9)
		puts(t, j, one(inter, 1, 0, "first"))
		holds(t, j, 14)
		takes(t, j, "first", "waits")
		holds(t, j, 4)
	}
}

// P13.3

func TestSkipFragments(t *testing.T) {
	for _, inter := range both {
		j := New(inter)
		for mid := range uint32(5) {
			puts(t, j, flagged(one(inter, 1, mid, "ordered"), "B"), flagged(one(inter, 2, mid, "stream"), "B"), flagged(one(inter, 3, mid, "looser"), "BU"))
		}
		j.Skip(api.Skip{Stream: 1, Mid: 2})
		holds(t, j, 2*7+5*6+5*6)
		j.Skip(api.Skip{Stream: 1, Mid: 1}) // less than the next number now
		j.Skip(api.Skip{Stream: 9, Mid: 1})
		j.Skip(api.Skip{Stream: 1, Mid: 4, Loose: true})
		holds(t, j, 2*7+5*6+5*6)
		j.Skip(api.Skip{Stream: 3, Mid: 4})
		holds(t, j, 2*7+5*6+5*6)
		takes(t, j)
		refuses(t, j, one(inter, 1, 2, "late"), one(inter, 3, 4, "late"))
		puts(t, j, one(inter, 9, 2, "next"))
		takes(t, j, "next")
	}
}

// Loose fragments have numbers, those of Data have none.
func TestSkipLoose(t *testing.T) {
	for _, inter := range both {
		j := New(inter)
		for mid := range uint32(5) {
			puts(t, j, flagged(one(inter, 1, mid, "ab"), "BU"), flagged(one(inter, 2, mid, "x"), "BU"))
		}
		puts(t, j, flagged(one(inter, 3, 0, "xyz"), "B"), another(inter, 1, 1, "waits"))
		j.Skip(api.Skip{Stream: 1, Loose: true, Mid: 2})
		want := 5*2 + 5 + 3 + 5
		if inter {
			want -= 3 * 2
		}
		holds(t, j, want)
		// The next number of the stream is as it was.
		takes(t, j)
		puts(t, j, another(inter, 1, 0, "first"))
		takes(t, j, "first", "waits")
	}
}

// another is one, with a Tsn of its own.
func another(inter bool, stream uint16, mid uint32, body string) api.Chunk {
	c := one(inter, stream, mid, body)
	c.Tsn += 3
	return c
}

func TestSkipOne(t *testing.T) {
	for _, inter := range both {
		for _, x := range []struct {
			mid  uint32
			want string
			next uint32
		}{{0, "12", 3}, {1, "12", 3}, {2, "12", 3}, {3, "12", 4}, {4, "1256", 7}, {5, "1256", 7}, {6, "1256", 7}, {7, "12568", 9}, {8, "12568", 9}, {20, "12568", 21}} {
			j := New(inter)
			for _, mid := range []uint32{8, 5, 2, 6, 1} {
				puts(t, j, one(inter, 1, mid, fmt.Sprint(mid)))
			}
			puts(t, j, one(inter, 2, 1, "other"))
			j.Skip(api.Skip{Stream: 1, Mid: x.mid})
			takes(t, j, strings.Split(x.want, "")...)
			holds(t, j, 5+5-len(x.want))
			refuses(t, j, another(inter, 1, x.next-1, "late"))
			puts(t, j, another(inter, 1, x.next, "now"))
			if m, ok := j.Take(); !ok || m.Mid != x.next {
				t.Errorf("skip to %d: Take = %+v, %v, want %d", x.mid, m, ok, x.next)
			}
		}
	}
}

// Nothing happens to what waits when the number is less than the next one.
func TestSkipBack(t *testing.T) {
	for _, x := range []struct {
		inter bool
		half  uint32
	}{{true, 1 << 31}, {false, 1 << 15}} {
		for _, ago := range []uint32{1, 2, 9, x.half - 1} {
			j := at(x.inter, 1, 10)
			puts(t, j, one(x.inter, 1, 12, "waits"))
			j.Skip(api.Skip{Stream: 1, Mid: 10 - ago})
			takes(t, j)
			puts(t, j, one(x.inter, 1, 10, "a"), one(x.inter, 1, 11, "b"))
			takes(t, j, "a", "b", "waits")
		}
		// Half the range away is not less.
		j := at(x.inter, 1, 10)
		puts(t, j, one(x.inter, 1, 12, "waits"), one(x.inter, 1, 10+x.half, "far"))
		j.Skip(api.Skip{Stream: 1, Mid: 10 + x.half})
		takes(t, j, "waits", "far")
	}
}

// The order is that from the next number on, not that of the numbers themselves.
func TestSkipAround(t *testing.T) {
	for _, inter := range both {
		last := uint32(math.MaxUint32)
		if !inter {
			last = 65535
		}
		for range 5 {
			j := at(inter, 1, last-3)
			var want []string
			for _, mid := range []uint32{5, last, 0, last - 1, 3, last - 2, 1, 9} {
				c := one(inter, 1, mid, fmt.Sprint(mid))
				puts(t, j, c)
			}
			for _, mid := range []uint32{last - 2, last - 1, last, 0, 1, 3} {
				want = append(want, fmt.Sprint(mid))
			}
			s := api.Skip{Stream: 1, Mid: 4}
			if !inter {
				s.Mid += 65536 * 9 // its lower sixteen bits count
			}
			j.Skip(s)
			takes(t, j, append(want, "5")...)
			holds(t, j, 1)
		}
	}
}

func TestSkipManyWaiting(t *testing.T) {
	for _, inter := range both {
		j := New(inter)
		var want []string
		for _, n := range rand.New(rand.NewSource(13)).Perm(3000) {
			puts(t, j, one(inter, 1, uint32(n)+1, fmt.Sprint(n)))
		}
		for n := range 3000 {
			want = append(want, fmt.Sprint(n))
		}
		j.Skip(api.Skip{Stream: 1, Mid: 2500})
		takes(t, j, want...)
	}
}

// P13.4

func TestPass(t *testing.T) {
	for _, x := range []struct {
		tsn  uint32
		left string
	}{
		{9, "abcd"}, {10, "bcd"}, {11, "cd"}, {12, "d"}, {13, ""}, {99, ""}, {10 + 1<<31 - 1, ""}, {10 + 1<<31, "a"},
		{11 + 1<<31, "ab"}, {12 + 1<<31, "abc"}, {13 + 1<<31, "abcd"}, {0, "abcd"}, {math.MaxUint32, "abcd"},
	} {
		j := New(false)
		for i, body := range "abcd" {
			puts(t, j, data(10+uint32(i), "U", 1, 0, string(body)))
		}
		j.Pass(x.tsn)
		holds(t, j, len(x.left))
		// What is left is told by what can't be put again.
		for i, body := range "abcd" {
			want := !strings.ContainsRune(x.left, body)
			if got := j.Put(data(10+uint32(i), "U", 1, 0, string(body))); got != want {
				t.Errorf("Pass(%d), and Put of %d = %v, want %v", x.tsn, 10+i, got, want)
			}
		}
	}
}

// Messages stay, whatever their numbers were, and so do the next numbers; a fragment that is cut off may come again.
func TestPassLeavesMessages(t *testing.T) {
	j := New(false)
	puts(t, j, data(10, "BE", 1, 1, "waits"), data(11, "BEU", 1, 0, "ready"), data(12, "B", 1, 0, "a"), data(13, "", 1, 0, "b"))
	j.Pass(12)
	holds(t, j, 11)
	takes(t, j, "ready")
	puts(t, j, data(14, "E", 1, 0, "c"))
	takes(t, j)
	holds(t, j, 7)
	puts(t, j, data(12, "B", 1, 0, "x"))
	takes(t, j, "xbc", "waits")
}

func TestPassIsForData(t *testing.T) {
	j := New(true)
	c := idata(0, "B", 1, 0, "a")
	c.Tsn = 5
	puts(t, j, c)
	for _, tsn := range []uint32{0, 5, 6, 100, 1 << 31, math.MaxUint32} {
		j.Pass(tsn)
		holds(t, j, 1)
	}
	puts(t, j, idata(1, "E", 1, 0, "b"))
	takes(t, j, "ab")
}

func TestReset(t *testing.T) {
	for _, inter := range both {
		for _, x := range []struct {
			streams []uint16
			gone    []uint16
		}{
			{nil, []uint16{0, 1, 2, 65535}}, {[]uint16{}, []uint16{0, 1, 2, 65535}}, {[]uint16{1}, []uint16{1}}, {[]uint16{65535, 0}, []uint16{0, 65535}},
			{[]uint16{2, 2, 2}, []uint16{2}}, {[]uint16{7}, nil}, {[]uint16{0, 1, 2, 3, 65535}, []uint16{0, 1, 2, 65535}},
		} {
			j := New(inter)
			all := []uint16{0, 1, 2, 65535}
			for i, s := range all {
				base := uint32(100 * i)
				for n, c := range []api.Chunk{
					one(inter, s, 0, "ready"), one(inter, s, 2, "waits"), flagged(one(inter, s, 3, "half"), "B"), flagged(one(inter, s, 3, "loose"), "BU"),
				} {
					c.Tsn = base + uint32(2*n)
					puts(t, j, c)
				}
			}
			j.Reset(x.streams...)
			holds(t, j, 4*5+(4-len(x.gone))*14)
			takes(t, j, "ready", "ready", "ready", "ready")
			for i, s := range all {
				first, second := one(inter, s, 0, "anew"), one(inter, s, 1, "second")
				first.Tsn, second.Tsn = uint32(1000+10*i), uint32(1005+10*i)
				if slices.Contains(x.gone, s) {
					puts(t, j, second, first)
					takes(t, j, "anew", "second")
				} else {
					refuses(t, j, first)
					puts(t, j, second)
					takes(t, j, "second", "waits")
				}
			}
		}
	}
}

// After a reset the numbers are those of a stream that never was.
func TestResetNext(t *testing.T) {
	for _, inter := range both {
		j := at(inter, 1, 500)
		refuses(t, j, one(inter, 1, 0, "x"))
		j.Reset(1)
		refuses(t, j, one(inter, 1, 65535+65536*65535, "x"))
		puts(t, j, one(inter, 1, 0, "x"), one(inter, 1, 1, "y"))
		takes(t, j, "x", "y")
	}
}

// P13.5

// What was handed in may be written into, and so may what was handed out, with the room behind it.
func TestApart(t *testing.T) {
	for _, inter := range both {
		for _, count := range []int{1, 2, 3, 8} {
			j := New(inter)
			cut := fragments(t, api.Message{Stream: 1, Body: []byte("abcdefgh")}, (8+count-1)/count, inter, 5)
			var handed [][]byte
			for _, c := range cut {
				whole := append([]byte("<<"), c.Body...)
				whole = append(whole, ">>"...)
				c.Body = whole[2 : len(whole)-2] // with room behind it
				c.Gaps, c.Params = []api.Gap{{From: 1}}, []api.Param{{Value: []byte("v")}}
				before := slices.Clone(whole)
				puts(t, j, c)
				if !bytes.Equal(whole, before) {
					t.Errorf("Put changed its argument: %s", whole)
				}
				// While the message is not complete, and while it is ready.
				fill(whole, 'x')
				handed = append(handed, whole)
			}
			puts(t, j, one(inter, 2, 0, "other"))
			got, _ := j.Take()
			if string(got.Body) != "abcdefgh" {
				t.Errorf("the message has the bytes of its fragments: %s", got.Body)
			}
			fill(got.Body[:cap(got.Body)], 'y')
			for _, whole := range handed {
				if bytes.Contains(whole, []byte("y")) {
					t.Errorf("the fragments have the bytes of the message: %s", whole)
				}
			}
			takes(t, j, "other")
		}
	}
}

func fill(b []byte, x byte) {
	for i := range b {
		b[i] = x
	}
}

// Messages that wait, or are ready, have no memory in common.
func TestMessagesApart(t *testing.T) {
	for _, inter := range both {
		j := New(inter)
		for mid := range uint32(20) {
			puts(t, j, one(inter, 1, 19-mid, fmt.Sprintf("message %d", 19-mid)))
		}
		for mid := range 20 {
			m, ok := j.Take()
			if want := fmt.Sprintf("message %d", mid); !ok || string(m.Body) != want {
				t.Errorf("Take = %q, %v, want %q", m.Body, ok, want)
			}
			fill(m.Body[:cap(m.Body)], 'y')
		}
		takes(t, j)
	}
}

func TestResetKeepsArguments(t *testing.T) {
	streams := []uint16{5, 1, 5, 0}
	j := New(true)
	puts(t, j, idata(0, "B", 5, 0, "x"))
	j.Reset(streams[:2]...)
	if !slices.Equal(streams, []uint16{5, 1, 5, 0}) {
		t.Errorf("Reset changed its arguments: %v", streams)
	}
	holds(t, j, 0)
}

// Two joiners have nothing in common.
func TestTwoJoiners(t *testing.T) {
	a, b := New(false), New(false)
	puts(t, a, data(1, "B", 1, 0, "a"))
	holds(t, b, 0)
	puts(t, b, data(2, "E", 1, 0, "b"))
	takes(t, a)
	takes(t, b)
	puts(t, a, data(2, "E", 1, 0, "c"))
	takes(t, a, "ac")
	holds(t, b, 1)
}

// Long messages

// Fragments of one byte each, as many as a message may have, in orders that would be slow if each were looked at again
// and again.
func TestManyFragments(t *testing.T) {
	body := make([]byte, api.MaxBody)
	for i := range body {
		body[i] = byte(i ^ i>>8*31)
	}
	n := len(body)
	up, down, turns := make([]int, n), make([]int, n), make([]int, n)
	for i := range n {
		up[i], down[i] = i, n-1-i
		turns[i] = i / 2 // from both ends
		if i%2 == 1 {
			turns[i] = n - 1 - i/2
		}
	}
	middle := append(slices.Clone(up[n/2:]), down[n/2:]...)
	inward := slices.Concat(up[1:n/2], down[:n/2], up[:1])
	random := rand.New(rand.NewSource(1)).Perm(n)
	for _, inter := range both {
		cut := fragments(t, api.Message{Stream: 1, Body: body}, 1, inter, math.MaxUint32-1000)
		for name, order := range map[string][]int{"up": up, "down": down, "turns": turns, "middle": middle, "inward": inward, "random": random} {
			j := New(inter)
			for _, i := range order {
				if !j.Put(cut[i]) {
					t.Fatalf("%s: Put of %d = false", name, i)
				}
			}
			if m, ok := j.Take(); !ok || !bytes.Equal(m.Body, body) {
				t.Errorf("inter %v, %s: Take = %d bytes, %v", inter, name, len(m.Body), ok)
			}
			holds(t, j, 0)
		}
	}
}

// Many messages that wait, or are ready, are taken one by one.
func TestManyMessages(t *testing.T) {
	const n = 30000
	for _, inter := range both {
		j := New(inter)
		for i := range uint32(n) {
			puts(t, j, short(inter, n-1-i))
		}
		holds(t, j, n)
		for i := range uint32(n) {
			if m, ok := j.Take(); !ok || m.Mid != i {
				t.Fatalf("Take = %+v, %v, want %d", m, ok, i)
			}
		}
		takes(t, j)
	}
}

func short(inter bool, mid uint32) api.Chunk {
	if inter {
		return idata(0, "BE", 1, mid, "x")
	}
	return data(mid, "BE", 1, mid, "x")
}

// All of it, against what the chapter says, worked out with lists alone

// plain is a joiner whose each answer is looked for in all that it has.
type plain struct {
	inter   bool
	frags   []api.Chunk
	waiting []api.Message
	ready   []api.Message
	next    map[uint16]uint32
}

func (p *plain) mid(n uint32) uint32 {
	if p.inter {
		return n
	}
	return n % 65536
}

// steps from a number of a message up to another one, and half of all that there are.
func (p *plain) steps(a, b uint32) (uint32, uint32) {
	if p.inter {
		return b - a, 1 << 31
	}
	return (b - a) % 65536, 1 << 15
}

func (p *plain) less(a, b uint32) bool {
	n, half := p.steps(a, b)
	return n >= 1 && n < half
}

func (p *plain) put(c api.Chunk) bool {
	if p.inter != (c.Kind == api.IData) || !p.inter && c.Kind != api.Data || len(c.Body) == 0 {
		return false
	}
	c.Mid = p.mid(c.Mid)
	c.Body = bytes.Clone(c.Body)
	if !c.Loose {
		waits := slices.ContainsFunc(p.waiting, func(m api.Message) bool { return m.Stream == c.Stream && m.Mid == c.Mid })
		if waits || p.less(c.Mid, p.next[c.Stream]) {
			return false
		}
	}
	if p.inter && (c.Begin && c.Frag != 0 || !c.Begin && c.Frag == 0 || c.Frag > 65535) {
		return false
	}
	for _, f := range p.frags {
		if p.inter && p.sameMessage(f, c) && f.Frag == c.Frag || !p.inter && f.Tsn == c.Tsn {
			return false
		}
	}
	p.frags = append(p.frags, c)
	if p.inter {
		p.completeIData(c)
	} else {
		p.completeData()
	}
	return true
}

func (p *plain) sameMessage(a, b api.Chunk) bool {
	return a.Stream == b.Stream && a.Loose == b.Loose && a.Mid == b.Mid
}

func (p *plain) completeIData(c api.Chunk) {
	var row []api.Chunk
	for {
		i := slices.IndexFunc(p.frags, func(f api.Chunk) bool { return p.sameMessage(f, c) && int(f.Frag) == len(row) })
		if i < 0 {
			return
		}
		row = append(row, p.frags[i])
		if p.frags[i].End {
			break
		}
	}
	p.frags = slices.DeleteFunc(p.frags, func(f api.Chunk) bool { return p.sameMessage(f, c) })
	p.message(row)
}

func (p *plain) completeData() {
	for _, b := range p.frags {
		if row := p.rowFrom(b); len(row) > 0 {
			p.frags = slices.DeleteFunc(p.frags, func(f api.Chunk) bool {
				return slices.ContainsFunc(row, func(r api.Chunk) bool { return r.Tsn == f.Tsn })
			})
			p.message(row)
			return
		}
	}
}

// rowFrom a Begin to the next End, if that is a message.
func (p *plain) rowFrom(b api.Chunk) []api.Chunk {
	if !b.Begin {
		return nil
	}
	row := []api.Chunk{b}
	for last := b; !last.End; row = append(row, last) {
		i := slices.IndexFunc(p.frags, func(f api.Chunk) bool { return f.Tsn == last.Tsn+1 })
		if i < 0 {
			return nil
		}
		last = p.frags[i]
		if last.Begin || last.Stream != b.Stream || last.Loose != b.Loose || !b.Loose && last.Mid != b.Mid {
			return nil
		}
	}
	return row
}

func (p *plain) message(row []api.Chunk) {
	b := row[0]
	m := api.Message{Stream: b.Stream, Loose: b.Loose, Mid: b.Mid, Ppid: b.Ppid}
	for _, c := range row {
		m.Body = append(m.Body, c.Body...)
	}
	if m.Loose {
		p.ready = append(p.ready, m)
		return
	}
	p.waiting = append(p.waiting, m)
	p.advance(m.Stream)
}

func (p *plain) advance(stream uint16) {
	for p.release(stream, p.next[stream]) {
		p.next[stream] = p.mid(p.next[stream] + 1)
	}
}

func (p *plain) release(stream uint16, mid uint32) bool {
	i := slices.IndexFunc(p.waiting, func(m api.Message) bool { return m.Stream == stream && m.Mid == mid })
	if i >= 0 {
		p.ready = append(p.ready, p.waiting[i])
		p.waiting = slices.Delete(p.waiting, i, i+1)
	}
	return i >= 0
}

func (p *plain) take() (api.Message, bool) {
	if len(p.ready) == 0 {
		return api.Message{}, false
	}
	m := p.ready[0]
	p.ready = p.ready[1:]
	return m, true
}

func (p *plain) skip(s api.Skip) {
	s.Mid = p.mid(s.Mid)
	upTo := func(mid uint32) bool { return mid == s.Mid || p.less(mid, s.Mid) }
	if p.inter || !s.Loose {
		p.frags = slices.DeleteFunc(p.frags, func(f api.Chunk) bool { return f.Stream == s.Stream && f.Loose == s.Loose && upTo(f.Mid) })
	}
	if s.Loose || p.less(s.Mid, p.next[s.Stream]) {
		return
	}
	for {
		best := -1
		for i, m := range p.waiting {
			if m.Stream != s.Stream || !upTo(m.Mid) {
				continue
			}
			far, _ := p.steps(p.next[s.Stream], m.Mid)
			if best >= 0 {
				if nearest, _ := p.steps(p.next[s.Stream], p.waiting[best].Mid); nearest < far {
					continue
				}
			}
			best = i
		}
		if best < 0 {
			break
		}
		p.release(s.Stream, p.waiting[best].Mid)
	}
	p.next[s.Stream] = p.mid(s.Mid + 1)
	p.advance(s.Stream)
}

func (p *plain) pass(tsn uint32) {
	if !p.inter {
		p.frags = slices.DeleteFunc(p.frags, func(f api.Chunk) bool { return tsn-f.Tsn < 1<<31 })
	}
}

func (p *plain) reset(streams ...uint16) {
	gone := func(stream uint16) bool { return len(streams) == 0 || slices.Contains(streams, stream) }
	p.frags = slices.DeleteFunc(p.frags, func(f api.Chunk) bool { return gone(f.Stream) })
	p.waiting = slices.DeleteFunc(p.waiting, func(m api.Message) bool { return gone(m.Stream) })
	for s := range p.next {
		if gone(s) {
			delete(p.next, s)
		}
	}
}

func (p *plain) held() int {
	n := 0
	for _, f := range p.frags {
		n += len(f.Body)
	}
	for _, m := range append(slices.Clone(p.waiting), p.ready...) {
		n += len(m.Body)
	}
	return n
}

// run both joiners side by side, over calls that are drawn from few numbers, so that these meet often.
func TestAgainstPlain(t *testing.T) {
	for seed := range int64(600) {
		r := rand.New(rand.NewSource(seed))
		inter := seed%2 == 0
		p := &plain{inter: inter, next: map[uint16]uint32{}}
		j := New(inter)
		if seed%4 >= 2 { // near where the numbers go round
			for _, mid := range []uint32{1 << 14, 1<<15 + 1<<13, 1<<16 - 4 - uint32(seed)%3} {
				for stream := range uint16(2) {
					if inter {
						mid = mid<<16 | 65535 - uint32(r.Intn(4))
					}
					s := api.Skip{Stream: stream, Mid: mid}
					j.Skip(s)
					p.skip(s)
				}
			}
		}
		base := r.Uint32()
		if seed%3 == 0 {
			base = math.MaxUint32 - 5
		}
		for step := range 400 {
			if !sameStep(t, r, j, p, base+uint32(step)/8) {
				t.Fatalf("seed %d, step %d", seed, step)
			}
		}
	}
}

// sameStep: one call upon both joiners, and what they have then.
func sameStep(t *testing.T, r *rand.Rand, j *Joiner, p *plain, base uint32) bool {
	t.Helper()
	stream := uint16(r.Intn(2))
	mid := p.next[stream] + uint32(r.Intn(5)) - uint32(r.Intn(2))
	if r.Intn(50) == 0 {
		mid = r.Uint32()
	}
	switch r.Intn(40) {
	case 0:
		s := api.Skip{Stream: stream, Loose: r.Intn(3) == 0, Mid: mid}
		j.Skip(s)
		p.skip(s)
	case 1:
		tsn := base + uint32(r.Intn(4))
		j.Pass(tsn)
		p.pass(tsn)
	case 2:
		if r.Intn(4) == 0 {
			streams := make([]uint16, r.Intn(3))
			for i := range streams {
				streams[i] = uint16(r.Intn(3))
			}
			j.Reset(streams...)
			p.reset(streams...)
		}
	default:
		c := anyChunk(r, p.inter, stream, mid, base)
		got, want := j.Put(c), p.put(c)
		if got != want {
			t.Errorf("Put of %+v = %v, want %v", c, got, want)
			return false
		}
	}
	for r.Intn(3) == 0 {
		m, ok := j.Take()
		m2, ok2 := p.take()
		if ok != ok2 || fmt.Sprint(m) != fmt.Sprint(m2) {
			t.Errorf("Take = %+v, %v, want %+v, %v", m, ok, m2, ok2)
			return false
		}
	}
	if j.Held() != p.held() {
		t.Errorf("%d bytes are held, want %d", j.Held(), p.held())
		return false
	}
	return true
}

// anyChunk is in most cases a fragment as it must be.
func anyChunk(r *rand.Rand, inter bool, stream uint16, mid, base uint32) api.Chunk {
	c := api.Chunk{
		Kind: api.Data, Begin: r.Intn(3) == 0, End: r.Intn(3) == 0, Loose: r.Intn(4) == 0, Tsn: base + uint32(r.Intn(8)), Stream: stream,
		Mid: mid, Ppid: r.Uint32(), Frag: uint32(r.Intn(4)), Body: make([]byte, 1+r.Intn(4)),
	}
	r.Read(c.Body)
	if inter {
		c.Kind = api.IData
		c.Begin = c.Frag == 0
	}
	switch r.Intn(40) {
	case 0:
		c.Body = nil
	case 1:
		c.Kind = []api.ChunkKind{api.Data, api.IData, api.Init, api.Forward, 99}[r.Intn(5)]
	case 2:
		c.Begin = !c.Begin
	case 3:
		c.Frag = 65534 + uint32(r.Intn(4))
	case 4:
		c.Frag = r.Uint32()
	}
	return c
}

// Messages that are cut, mixed and doubled come out as they went in: each once, the ordered ones of a stream in order.
func TestThroughFrag(t *testing.T) {
	for seed := range int64(60) {
		r := rand.New(rand.NewSource(seed))
		inter := seed%2 == 0
		var sent []api.Message
		var all []api.Chunk
		tsn := r.Uint32()
		mids := map[string]uint32{}
		for range 60 {
			m := api.Message{Stream: uint16(r.Intn(3)), Loose: r.Intn(3) == 0, Ppid: r.Uint32(), Body: make([]byte, 1+r.Intn(2000))}
			r.Read(m.Body)
			key := fmt.Sprint(m.Stream, m.Loose)
			m.Mid = mids[key]
			mids[key]++
			cut := fragments(t, m, 1+r.Intn(500), inter, tsn)
			tsn += uint32(len(cut))
			sent, all = append(sent, m), append(all, cut...)
		}
		r.Shuffle(len(all), func(i, k int) { all[i], all[k] = all[k], all[i] })
		j := New(inter)
		var got []api.Message
		for i, c := range all {
			puts(t, j, c)
			if k := r.Intn(i + 1); !all[k].Loose && j.Put(all[k]) {
				t.Errorf("seed %d: a fragment is taken twice", seed)
			}
			for m, ok := j.Take(); ok; m, ok = j.Take() {
				got = append(got, m)
			}
		}
		holds(t, j, 0)
		sameMessages(t, got, sent)
	}
}

// sameMessages, in order but for the loose ones?
func sameMessages(t *testing.T, got, sent []api.Message) {
	t.Helper()
	byNumber := func(a, b api.Message) int { return int(a.Mid) - int(b.Mid) }
	for stream := range uint16(3) {
		for _, loose := range []bool{true, false} {
			other := func(m api.Message) bool { return m.Stream != stream || m.Loose != loose }
			a, b := slices.DeleteFunc(slices.Clone(got), other), slices.DeleteFunc(slices.Clone(sent), other)
			if loose {
				slices.SortFunc(a, byNumber)
			}
			if fmt.Sprint(a) != fmt.Sprint(b) {
				t.Errorf("stream %d, loose %v: %d messages came, %d were sent, or others", stream, loose, len(a), len(b))
			}
		}
	}
}
