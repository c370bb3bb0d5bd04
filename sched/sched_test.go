package sched

import (
	"bytes"
	"fmt"
	"math"
	"math/rand"
	"regexp"
	"slices"
	"strings"
	"testing"

	"flume/api"
	"flume/frag"
	"flume/join"
)

// rooms of both kinds of queues, as layer 12 has them.
var rooms = []struct {
	inter bool
	kind  api.ChunkKind
	room  int
}{{true, api.IData, 1168}, {false, api.Data, 1172}}

var always = api.Limit{}

// sameChunk: whether a list without items is nil doesn't matter.
func sameChunk(a, b api.Chunk) bool {
	if !bytes.Equal(a.Body, b.Body) {
		return false
	}
	a.Body, b.Body = nil, nil
	return fmt.Sprint(a) == fmt.Sprint(b)
}

// pushed is a queue of messages, each written as its stream, with u if it is loose, and its bytes: "3u ab". Their
// numbers are 1, 2 and so on.
func pushed(t *testing.T, inter bool, messages ...string) *Queue {
	t.Helper()
	q := New(inter)
	for i, m := range messages {
		push(t, q, i+1, m)
	}
	return q
}

func push(t *testing.T, q *Queue, id int, message string) {
	t.Helper()
	where, body, _ := strings.Cut(message, " ")
	m := api.Message{Loose: strings.HasSuffix(where, "u"), Body: []byte(body)}
	fmt.Sscan(strings.TrimSuffix(where, "u"), &m.Stream)
	if err := q.Push(id, always, m); err != api.OK {
		t.Errorf("Push of %q = %v", message, err)
	}
}

// shown: a fragment as its stream and bytes, with its Mid, its Frag, and B and E: "3u ab 0.1 E". A Data has no Frag.
func shown(c api.Chunk) string {
	s := fmt.Sprint(c.Stream)
	if c.Loose {
		s += "u"
	}
	s += fmt.Sprintf(" %s %d", c.Body, c.Mid)
	if c.Kind == api.IData {
		s += fmt.Sprintf(".%d", c.Frag)
	}
	s += " "
	if c.Begin {
		s += "B"
	}
	if c.End {
		s += "E"
	}
	return strings.TrimSuffix(s, " ")
}

// of a kind of queue, what fragments with Frags look like.
func of(inter bool, all ...string) []string {
	for i := range all {
		if !inter {
			all[i] = regexp.MustCompile(`\.\d+`).ReplaceAllString(all[i], "")
		}
	}
	return all
}

// gives: are these the next fragments?
func gives(t *testing.T, q *Queue, most int, want ...string) {
	t.Helper()
	for _, w := range want {
		c, _, _, ok := q.Next(most)
		if got := shown(c); got != w || !ok {
			t.Errorf("Next(%d) = %s, %v, want %s", most, got, ok, w)
		}
	}
}

// givesNone: does Next give nothing?
func givesNone(t *testing.T, q *Queue, most int) {
	t.Helper()
	c, id, l, ok := q.Next(most)
	if !sameChunk(c, api.Chunk{}) || id != 0 || l != always || ok {
		t.Errorf("Next(%d) = %v, %d, %v, %v, want nothing", most, c, id, l, ok)
	}
}

// givesAll: are these all of the fragments that it has?
func givesAll(t *testing.T, q *Queue, most int, want ...string) {
	t.Helper()
	gives(t, q, most, want...)
	givesNone(t, q, most)
	if q.All() != 0 {
		t.Errorf("All = %d", q.All())
	}
}

// drops: does Drop give so many bytes, and these fragments? And nothing when it is asked anew?
func drops(t *testing.T, q *Queue, id, left int, want ...string) {
	t.Helper()
	n, ends := q.Drop(id)
	var got []string
	for _, c := range ends {
		got = append(got, shown(c))
	}
	if n != left || !slices.Equal(got, want) {
		t.Errorf("Drop(%d) = %d, %q, want %d, %q", id, n, got, left, want)
	}
	if n, ends := q.Drop(id); n != 0 || len(ends) != 0 {
		t.Errorf("Drop(%d) anew = %d, %v", id, n, ends)
	}
}

// waits: do so many bytes wait on a stream, and so many in all?
func waits(t *testing.T, q *Queue, stream uint16, bytes, all int) {
	t.Helper()
	if q.Bytes(stream) != bytes || q.All() != all {
		t.Errorf("Bytes(%d) = %d of %d, want %d of %d", stream, q.Bytes(stream), q.All(), bytes, all)
	}
}

// refuses: does Push answer this error, and change nothing that waits?
func refuses(t *testing.T, q *Queue, stream uint16, n int, want api.Errno) {
	t.Helper()
	bytes, all := q.Bytes(stream), q.All()
	if err := q.Push(7, api.Limit{Kind: api.Times}, api.Message{Stream: stream, Body: make([]byte, n)}); err != want {
		t.Errorf("Push of %d bytes = %v, want %v", n, err, want)
	}
	waits(t, q, stream, bytes, all)
}

// filled is a queue with so many bytes on the stream 9, in messages with the number 8.
func filled(t *testing.T, inter bool, n int) *Queue {
	t.Helper()
	q := New(inter)
	for n > 0 {
		m := api.Message{Stream: 9, Body: make([]byte, min(n, 65536))}
		if err := q.Push(8, always, m); err != api.OK {
			t.Fatalf("Push = %v", err)
		}
		n -= len(m.Body)
	}
	return q
}

// The chapter's example

func TestExample(t *testing.T) {
	givesAll(t, pushed(t, true, "1 abcd", "2 xy"), 2, "1 ab 0.0 B", "2 xy 0.0 BE", "1 cd 0.1 E")
	givesAll(t, pushed(t, false, "1 abcd", "2 xy"), 2, "1 ab 0 B", "1 cd 0 E", "2 xy 0 BE")
}

// P17.1

func TestPushErrors(t *testing.T) {
	for _, x := range rooms {
		q := New(x.inter)
		refuses(t, q, 1, 0, api.ErrForm)
		refuses(t, q, 1, 65537, api.ErrLong)
		refuses(t, q, 1, 1<<20, api.ErrLong)
		if err := q.Push(1, always, api.Message{Body: []byte("ab")[:0]}); err != api.ErrForm {
			t.Errorf("Push of no bytes = %v", err)
		}
		givesNone(t, q, 1)
		push(t, q, 1, "2 a")
		refuses(t, q, 1, 65537, api.ErrLong)
		refuses(t, q, 1, 0, api.ErrForm)
		push(t, q, 2, "1 b")
		// What was refused took no turn, no Mid and no number.
		drops(t, q, 7, 0)
		givesAll(t, q, 1, of(x.inter, "2 a 0.0 BE", "1 b 0.0 BE")...)
	}
}

// All streams share the room that there is.
func TestPushWhenFull(t *testing.T) {
	for _, x := range rooms {
		for _, n := range []int{1, 2, 100, 65534, 65535, 65536} {
			q := filled(t, x.inter, 262144-n)
			if n < 65536 {
				refuses(t, q, 1, n+1, api.ErrFull)
				refuses(t, q, 9, 65536, api.ErrFull)
			}
			if err := q.Push(1, always, api.Message{Stream: 1, Body: make([]byte, n)}); err != api.OK {
				t.Errorf("Push of %d bytes, for which there is room = %v", n, err)
			}
			waits(t, q, 1, n, 262144)
			for _, stream := range []uint16{0, 1, 9} {
				refuses(t, q, stream, 1, api.ErrFull)
				refuses(t, q, stream, 65536, api.ErrFull)
				refuses(t, q, stream, 0, api.ErrForm)
				refuses(t, q, stream, 65537, api.ErrLong)
			}
			drops(t, q, 7, 0)
		}
	}
}

// What was cut off, or dropped, waits no more: there is room for as much.
func TestPushWhenThereIsRoomAgain(t *testing.T) {
	for _, x := range rooms {
		q := filled(t, x.inter, 262144)
		q.Next(3)
		waits(t, q, 9, 262141, 262141)
		refuses(t, q, 1, 4, api.ErrFull)
		push(t, q, 1, "1 abc")
		refuses(t, q, 9, 1, api.ErrFull)
		drops(t, q, 1, 3)
		refuses(t, q, 1, 4, api.ErrFull)
		push(t, q, 1, "9 abc")
		refuses(t, q, 9, 1, api.ErrFull)
		if n, _ := q.Drop(8); n != 262141 {
			t.Errorf("Drop = %d", n)
		}
		waits(t, q, 9, 3, 3)
		push(t, q, 2, "1 d")
		gives(t, q, 1, of(x.inter, "9 a 1.0 B")...)
	}
}

// All of a message is in its fragments but the Mid, which the queue gives; its number and limit come with each.
func TestNextHasAll(t *testing.T) {
	limits := []api.Limit{{}, {Kind: api.Times, N: 3}, {Kind: api.Until, N: math.MaxUint32}, {Kind: 77, N: 1}, {Kind: -1}, {N: 5}}
	for _, x := range rooms {
		for _, id := range []int{0, 1, -1, math.MinInt, math.MaxInt} {
			for _, l := range limits {
				q := New(x.inter)
				m := api.Message{Stream: 65535, Loose: id > 0, Mid: 99, Ppid: 0x89ABCDEF, Body: []byte("abc")}
				if err := q.Push(id, l, m); err != api.OK {
					t.Errorf("Push = %v", err)
				}
				m.Mid = 0
				cut, _ := frag.Cut(m, 2, x.inter)
				for _, want := range cut {
					c, gotId, gotL, ok := q.Next(2)
					if !sameChunk(c, want) || gotId != id || gotL != l || !ok {
						t.Errorf("Next = %v, %d, %v, %v, want %v, %d, %v", c, gotId, gotL, ok, want, id, l)
					}
				}
				givesNone(t, q, 2)
			}
		}
	}
}

// P17.2

func TestNextOfNothing(t *testing.T) {
	for _, x := range rooms {
		q := New(x.inter)
		for _, most := range []int{math.MinInt, -1, 0, 1, x.room, x.room + 1, math.MaxInt} {
			givesNone(t, q, most)
		}
		push(t, q, 1, "1 a")
		givesAll(t, q, 1, of(x.inter, "1 a 0.0 BE")...)
		push(t, q, 1, "1 a")
		drops(t, q, 1, 1)
		givesNone(t, q, 1)
		waits(t, q, 1, 0, 0)
	}
}

// With a size that may not be, nothing changes.
func TestNextMost(t *testing.T) {
	for _, x := range rooms {
		long := strings.Repeat("a", 1173)
		q := pushed(t, x.inter, "1 "+long, "2 b")
		wrong := []int{math.MinInt, math.MinInt32, -x.room, -1, 0, x.room + 1, x.room + 2, 65536, math.MaxInt32, 1 << 32, 1<<32 + 1, math.MaxInt}
		for _, most := range wrong {
			givesNone(t, q, most)
		}
		waits(t, q, 1, 1173, 1174)
		gives(t, q, x.room, of(x.inter, "1 "+long[:x.room]+" 0.0 B")...)
		for _, most := range wrong {
			givesNone(t, q, most)
		}
		waits(t, q, 1, 1173-x.room, 1174-x.room)
		last := "1 " + long[x.room:] + " 0.1 E"
		want := []string{last, "2 b 0.0 BE"}
		if x.inter {
			slices.Reverse(want)
		}
		givesAll(t, q, x.room-1, of(x.inter, want...)...)
	}
}

// The fragments are those of layer 12, with each size.
func TestNextLikeCut(t *testing.T) {
	r := rand.New(rand.NewSource(172))
	for _, x := range rooms {
		for _, n := range []int{1, 2, 3, 1167, 1168, 1169, 1172, 1173, 2336, 2344, 65535, 65536} {
			for _, most := range []int{1, 2, 3, 1000, 1167, 1168, x.room} {
				m := api.Message{Stream: 5, Loose: n%2 == 0, Ppid: 53, Body: make([]byte, n)}
				r.Read(m.Body)
				cut, _ := frag.Cut(m, most, x.inter)
				q := New(x.inter)
				q.Push(1, always, m)
				for i, want := range cut {
					if c, _, _, ok := q.Next(most); !sameChunk(c, want) || !ok {
						t.Fatalf("%d bytes, %d: fragment %d is %.100v, want %.100v", n, most, i, c, want)
					}
				}
				givesNone(t, q, most)
			}
		}
	}
}

// Each fragment may have another size.
func TestNextOfOtherSizes(t *testing.T) {
	for _, x := range rooms {
		q := pushed(t, x.inter, "1 abcdefghij")
		gives(t, q, 3, of(x.inter, "1 abc 0.0 B")...)
		gives(t, q, 1, of(x.inter, "1 d 0.1")...)
		gives(t, q, 5, of(x.inter, "1 efghi 0.2")...)
		givesAll(t, q, x.room, of(x.inter, "1 j 0.3 E")...)
	}
}

// The Mids of each stream count by themselves, and those of its loose messages, too.
func TestMids(t *testing.T) {
	messages := []string{"1 a", "1 b", "1u c", "1 d", "1u e", "2u f", "2 g", "65535 h", "1 i"}
	givesAll(t, pushed(t, true, messages...), 9,
		"1 a 0.0 BE", "2u f 0.0 BE", "65535 h 0.0 BE", "1 b 1.0 BE", "2 g 0.0 BE",
		"1u c 0.0 BE", "1 d 2.0 BE", "1u e 1.0 BE", "1 i 3.0 BE")
	givesAll(t, pushed(t, false, messages...), 9,
		"1 a 0 BE", "2u f 0 BE", "65535 h 0 BE", "1 b 1 BE", "2 g 0 BE",
		"1u c 0 BE", "1 d 2 BE", "1u e 0 BE", "1 i 3 BE")
}

// They go on when a stream had no messages in between.
func TestMidsGoOn(t *testing.T) {
	for _, x := range rooms {
		q := New(x.inter)
		for mid := range 5 {
			push(t, q, 1, "4 ab")
			gives(t, q, 1, of(x.inter, fmt.Sprintf("4 a %d.0 B", mid), fmt.Sprintf("4 b %d.1 E", mid))...)
			givesNone(t, q, 1)
		}
	}
}

// A message gets its Mid when it is begun, and one that is dropped before that takes none.
func TestMidOnceBegun(t *testing.T) {
	for _, x := range rooms {
		q := pushed(t, x.inter, "1 a", "1 bc", "1 d", "1 e", "1 f")
		drops(t, q, 1, 1)
		gives(t, q, 1, of(x.inter, "1 b 0.0 B")...)
		drops(t, q, 3, 1)
		drops(t, q, 2, 1, of(x.inter, "1  0.1 E")...)
		gives(t, q, 1, of(x.inter, "1 e 1.0 BE")...)
		drops(t, q, 5, 1)
		push(t, q, 6, "1 g")
		givesAll(t, q, 1, of(x.inter, "1 g 2.0 BE")...)
	}
}

// The Mids of Data go round after 65535, those of IData do not.
func TestMidsOfManyMessages(t *testing.T) {
	for _, x := range rooms {
		for _, loose := range []bool{false, true} {
			q := New(x.inter)
			for i := range uint32(131075) {
				q.Push(1, always, api.Message{Stream: 3, Loose: loose, Body: []byte("a")})
				want := i
				switch {
				case !x.inter && loose:
					want = 0
				case !x.inter:
					want = i % 65536
				}
				if c, _, _, ok := q.Next(1); c.Mid != want || !ok {
					t.Fatalf("inter %v, loose %v: message %d has the Mid %d", x.inter, loose, i, c.Mid)
				}
			}
		}
	}
}

func TestMidsOfIDataGoRound(t *testing.T) {
	for _, where := range []string{"3", "3u"} {
		q := pushed(t, true, where+" a", where+" b", where+" c")
		q.mids[line{stream: 3, loose: where == "3u"}] = math.MaxUint32 - 1
		givesAll(t, q, 1, where+" a 4294967294.0 BE", where+" b 4294967295.0 BE", where+" c 0.0 BE")
	}
}

// The streams come in the order of their first messages, each behind the others once it was served.
func TestTurns(t *testing.T) {
	messages := []string{"7 abc", "3 d", "7 e", "5 fg", "3 hi"}
	givesAll(t, pushed(t, true, messages...), 1,
		"7 a 0.0 B", "3 d 0.0 BE", "5 f 0.0 B",
		"7 b 0.1", "3 h 1.0 B", "5 g 0.1 E",
		"7 c 0.2 E", "3 i 1.1 E",
		"7 e 1.0 BE")
	givesAll(t, pushed(t, false, messages...), 1,
		"7 a 0 B", "7 b 0", "7 c 0 E",
		"3 d 0 BE",
		"5 f 0 B", "5 g 0 E",
		"7 e 1 BE",
		"3 h 1 B", "3 i 1 E")
}

// Ordered and loose messages of a stream are in one row.
func TestTurnsOfLoose(t *testing.T) {
	messages := []string{"1 ab", "1u cd", "2u ef", "1 g"}
	givesAll(t, pushed(t, true, messages...), 1,
		"1 a 0.0 B", "2u e 0.0 B", "1 b 0.1 E", "2u f 0.1 E", "1u c 0.0 B", "1u d 0.1 E", "1 g 1.0 BE")
	givesAll(t, pushed(t, false, messages...), 1,
		"1 a 0 B", "1 b 0 E", "2u e 0 B", "2u f 0 E", "1u c 0 B", "1u d 0 E", "1 g 1 BE")
}

// A stream that gets its first message meanwhile comes behind the others.
func TestTurnOfNewStream(t *testing.T) {
	for _, x := range rooms {
		q := pushed(t, x.inter, "1 ab", "2 cd", "1 e")
		gives(t, q, 1, of(x.inter, "1 a 0.0 B")...)
		push(t, q, 4, "3 f")
		if x.inter {
			givesAll(t, q, 1, "2 c 0.0 B", "1 b 0.1 E", "3 f 0.0 BE", "2 d 0.1 E", "1 e 1.0 BE")
		} else {
			givesAll(t, q, 1, "1 b 0 E", "2 c 0 B", "2 d 0 E", "3 f 0 BE", "1 e 1 BE")
		}
	}
}

// A stream that had no messages in between has lost its place.
func TestTurnOfStreamThatWasEmpty(t *testing.T) {
	for _, x := range rooms {
		q := pushed(t, x.inter, "1 a", "2 b", "3 c")
		gives(t, q, 1, of(x.inter, "1 a 0.0 BE")...)
		push(t, q, 4, "1 d")
		drops(t, q, 2, 1)
		push(t, q, 5, "2 e")
		givesAll(t, q, 1, of(x.inter, "3 c 0.0 BE", "1 d 1.0 BE", "2 e 0.0 BE")...)
	}
}

// One stream alone comes behind itself.
func TestTurnsOfOneStream(t *testing.T) {
	for _, x := range rooms {
		givesAll(t, pushed(t, x.inter, "6 abc", "6 d", "6 ef"), 2,
			of(x.inter, "6 ab 0.0 B", "6 c 0.1 E", "6 d 1.0 BE", "6 ef 2.0 BE")...)
	}
}

// P17.3: Drop

func TestDropOfNone(t *testing.T) {
	for _, x := range rooms {
		q := pushed(t, x.inter, "1 ab", "2 c")
		for _, id := range []int{0, 3, -1, math.MinInt, math.MaxInt, 1 + 1<<32} {
			drops(t, q, id, 0)
		}
		gives(t, q, 2, of(x.inter, "1 ab 0.0 BE")...)
		drops(t, q, 1, 0) // it is cut off as a whole
		waits(t, q, 2, 1, 1)
		givesAll(t, q, 2, of(x.inter, "2 c 0.0 BE")...)
	}
}

// Of messages that are not begun, there is no fragment, and the others stay in their order.
func TestDropWhole(t *testing.T) {
	for _, x := range rooms {
		for id, want := range [][]string{
			{"1 ab 0.0 BE", "2 f 0.0 BE", "1 c 1.0 BE", "1 de 2.0 BE"},
			{"1 c 0.0 BE", "2 f 0.0 BE", "1 de 1.0 BE"},
			{"1 ab 0.0 BE", "2 f 0.0 BE", "1 de 1.0 BE"},
			{"1 ab 0.0 BE", "2 f 0.0 BE", "1 c 1.0 BE"},
			{"1 ab 0.0 BE", "1 c 1.0 BE", "1 de 2.0 BE"},
		} {
			q := pushed(t, x.inter, "1 ab", "1 c", "1 de", "2 f")
			drops(t, q, id, []int{0, 2, 1, 2, 1}[id])
			givesAll(t, q, 2, of(x.inter, want...)...)
		}
	}
}

// Of a message that is begun, there is the fragment that would come next.
func TestDropBegun(t *testing.T) {
	for _, x := range rooms {
		for cut, want := range []string{"", "3  0.1 E", "3  0.2 E", "3  0.3 E"} {
			q := pushed(t, x.inter, "3 abcd", "3 e")
			for range cut {
				q.Next(1)
			}
			if cut == 0 {
				drops(t, q, 1, 4)
				givesAll(t, q, 1, of(x.inter, "3 e 0.0 BE")...)
				continue
			}
			drops(t, q, 1, 4-cut, of(x.inter, want)...)
			waits(t, q, 3, 1, 1)
			givesAll(t, q, 1, of(x.inter, "3 e 1.0 BE")...)
		}
	}
}

// All that the fragment has.
func TestDropHasAll(t *testing.T) {
	for _, x := range rooms {
		for _, loose := range []bool{false, true} {
			q := New(x.inter)
			q.mids[line{stream: 65535, loose: loose}] = 65537
			q.Push(-5, api.Limit{Kind: api.Until, N: 6}, api.Message{Stream: 65535, Loose: loose, Mid: 9, Ppid: 0x89ABCDEF, Body: make([]byte, 65536)})
			for range 65535 {
				q.Next(1)
			}
			want := api.Chunk{Kind: x.kind, End: true, Loose: loose, Stream: 65535, Ppid: 0x89ABCDEF}
			switch {
			case x.inter:
				want.Mid, want.Frag = 65537, 65535
			case !loose:
				want.Mid = 1
			}
			left, ends := q.Drop(-5)
			if left != 1 || len(ends) != 1 || !sameChunk(ends[0], want) {
				t.Errorf("Drop = %d, %v, want %v", left, ends, want)
			}
			waits(t, q, 65535, 0, 0)
			givesNone(t, q, 1)
		}
	}
}

// Many messages may have one number: all of them are dropped, in whatever streams.
func TestDropMany(t *testing.T) {
	for _, x := range rooms {
		q := New(x.inter)
		for _, m := range []string{"1 ab", "2 cd", "1 ef", "3 g"} {
			push(t, q, 5, m)
			push(t, q, 6, strings.ToUpper(m))
		}
		waits(t, q, 1, 8, 14)
		drops(t, q, 5, 7)
		waits(t, q, 1, 4, 7)
		waits(t, q, 3, 1, 7)
		givesAll(t, q, 2, of(x.inter, "1 AB 0.0 BE", "2 CD 0.0 BE", "3 G 0.0 BE", "1 EF 1.0 BE")...)
	}
}

// With inter, messages of many streams may be begun: their fragments come in the order of the turns.
func TestDropManyBegun(t *testing.T) {
	for turns, want := range [][]string{
		{},
		{"9  0.1 E"},
		{"9  0.1 E", "2  0.1 E"},
		{"9  0.1 E", "2  0.1 E", "5u  0.1 E"},
		{"2  0.1 E", "5u  0.1 E", "9  0.2 E"},
		{"5u  0.1 E", "9  0.2 E", "2  0.2 E"},
		{"9  0.2 E", "2  0.2 E", "5u  0.2 E"},
	} {
		q := New(true)
		for _, m := range []string{"9 abcd", "2 efgh", "5u ijkl", "2 x"} {
			push(t, q, 8, m)
		}
		push(t, q, 1, "9 z")
		for range turns {
			q.Next(1)
		}
		drops(t, q, 8, 13-turns, want...)
		mid := min(turns, 1)
		givesAll(t, q, 1, fmt.Sprintf("9 z %d.0 BE", mid))
	}
}

// The turns are those before the Drop, also of streams that have nothing left, and of some that were not begun.
func TestDropInOrderOfTurns(t *testing.T) {
	q := pushed(t, true, "1 abc", "2 abc", "3 abc", "4 abc")
	gives(t, q, 1, "1 a 0.0 B", "2 a 0.0 B")
	push(t, q, 2, "1 xyz") // not begun
	push(t, q, 2, "4 xyz")
	push(t, q, 4, "2 w")
	gives(t, q, 1, "3 a 0.0 B", "4 a 0.0 B", "1 b 0.1", "2 b 0.1")
	// The turns are those of 3, 4, 1 and 2.
	drops(t, q, 2, 7, "2  0.2 E")
	push(t, q, 4, "5 v")
	drops(t, q, 4, 4, "4  0.1 E")
	givesAll(t, q, 3, "3 bc 0.1 E", "1 c 0.2 E")
}

// Without inter: once the message is dropped for which a stream was served, its turn is over.
func TestDropEndsTurn(t *testing.T) {
	q := pushed(t, false, "1 abc", "1 d", "2 e", "3 f")
	gives(t, q, 1, "1 a 0 B")
	drops(t, q, 1, 2, "1  0 E")
	givesAll(t, q, 1, "2 e 0 BE", "3 f 0 BE", "1 d 1 BE")

	q = pushed(t, false, "1 abc", "2 e", "3 f")
	gives(t, q, 1, "1 a 0 B", "1 b 0")
	drops(t, q, 1, 1, "1  0 E")
	push(t, q, 4, "1 d")
	givesAll(t, q, 1, "2 e 0 BE", "3 f 0 BE", "1 d 1 BE")

	q = pushed(t, false, "1 abc", "1 d")
	gives(t, q, 1, "1 a 0 B")
	drops(t, q, 1, 2, "1  0 E")
	push(t, q, 3, "2 e")
	givesAll(t, q, 1, "1 d 1 BE", "2 e 0 BE")
}

// Also when more of the stream, and of others, is dropped with it.
func TestDropEndsTurnOfMany(t *testing.T) {
	for _, order := range [][]string{
		{"1 abc", "1 d", "2 e", "1 f", "2 g", "3 h"}, {"1 abc", "2 e", "2 g", "1 d", "1 f", "3 h"}, {"1 abc", "2 e", "3 h", "2 g", "1 d", "1 f"},
	} {
		q := New(false)
		for _, m := range order {
			id := 4
			if strings.ContainsAny(m, "fgh") {
				id = 5
			}
			push(t, q, id, m)
		}
		gives(t, q, 1, "1 a 0 B")
		drops(t, q, 4, 4, "1  0 E")
		givesAll(t, q, 1, "2 g 0 BE", "3 h 0 BE", "1 f 1 BE")
	}
}

// Any other message that is dropped ends no turn.
func TestDropKeepsTurn(t *testing.T) {
	for _, x := range rooms {
		q := pushed(t, x.inter, "1 ab", "1 c", "2 d") // the one that comes next, but is not begun
		drops(t, q, 1, 2)
		givesAll(t, q, 1, of(x.inter, "1 c 0.0 BE", "2 d 0.0 BE")...)
	}
	q := pushed(t, false, "1 ab", "1 c", "2 d", "2 e", "1 f") // others of the stream that is served, and of one behind it
	gives(t, q, 1, "1 a 0 B")
	drops(t, q, 2, 1)
	drops(t, q, 3, 1)
	givesAll(t, q, 1, "1 b 0 E", "2 e 0 BE", "1 f 1 BE")

	q = pushed(t, true, "1 abc", "1 d", "2 ef") // with inter, the turn is over with each fragment
	gives(t, q, 1, "1 a 0.0 B", "2 e 0.0 B")
	drops(t, q, 1, 2, "1  0.1 E")
	givesAll(t, q, 1, "1 d 1.0 BE", "2 f 0.1 E")
}

// P17.3: Bytes, All

func TestBytes(t *testing.T) {
	for _, x := range rooms {
		q := pushed(t, x.inter, "0 abcd", "65535 ef", "0u ghi", "1 j")
		for stream, want := range map[uint16]int{0: 7, 65535: 2, 1: 1, 2: 0, 65534: 0, 256: 0} {
			waits(t, q, stream, want, 10)
		}
		gives(t, q, 3, of(x.inter, "0 abc 0.0 B")...)
		waits(t, q, 0, 4, 7)
		drops(t, q, 1, 1, of(x.inter, "0  0.1 E")...)
		waits(t, q, 0, 3, 6)
		drops(t, q, 2, 2)
		waits(t, q, 65535, 0, 4)
		waits(t, q, 0, 3, 4)
		q.Reset(0)
		waits(t, q, 0, 3, 4)
		q.Reset()
		waits(t, q, 1, 1, 4)
	}
}

// P17.3: Reset

// two messages of each of the streams, ordered and loose, are sent.
func twoOfEach(t *testing.T, q *Queue, streams ...uint16) {
	t.Helper()
	for _, s := range streams {
		for range 2 {
			push(t, q, 1, fmt.Sprintf("%d a", s))
			push(t, q, 1, fmt.Sprintf("%du a", s))
		}
	}
	for q.All() > 0 {
		q.Next(1)
	}
}

func TestReset(t *testing.T) {
	streams := []uint16{0, 1, 2, 300, 65535}
	for _, x := range rooms {
		for _, reset := range [][]uint16{{}, {0}, {1}, {2, 65535}, {65535, 300, 2, 1, 0}, {1, 1, 1}, {5}, {5, 0}, {44}} {
			q := New(x.inter)
			twoOfEach(t, q, streams...)
			q.Reset(reset...)
			for _, s := range streams {
				mid := 2
				if len(reset) == 0 || slices.Contains(reset, s) {
					mid = 0
				}
				loose := mid
				if !x.inter {
					loose = 0
				}
				for i := range 3 {
					push(t, q, 1, fmt.Sprintf("%d b", s))
					push(t, q, 1, fmt.Sprintf("%du c", s))
					if i > 0 && x.inter {
						loose++
					}
					givesAll(t, q, 1, of(x.inter, fmt.Sprintf("%d b %d.0 BE", s, mid+i), fmt.Sprintf("%du c %d.0 BE", s, loose))...)
				}
			}
		}
	}
}

// Messages that wait remain, and so does the Mid of one that is begun; those after it count from 0.
func TestResetOfWhatWaits(t *testing.T) {
	for _, x := range rooms {
		for _, reset := range [][]uint16{{}, {1}, {2, 1}} {
			q := New(x.inter)
			twoOfEach(t, q, 1)
			for i, m := range []string{"1 abc", "1 d", "1u e", "1 f"} {
				push(t, q, i, m)
			}
			gives(t, q, 1, of(x.inter, "1 a 2.0 B")...)
			q.Reset(reset...)
			waits(t, q, 1, 5, 5)
			gives(t, q, 1, of(x.inter, "1 b 2.1", "1 c 2.2 E", "1 d 0.0 BE")...)
			givesAll(t, q, 1, of(x.inter, "1u e 0.0 BE", "1 f 1.0 BE")...)
		}
		q := pushed(t, x.inter, "1 ab", "1 cde", "1 f")
		gives(t, q, 2, of(x.inter, "1 ab 0.0 BE", "1 cd 1.0 B")...)
		q.Reset(1)
		drops(t, q, 2, 1, of(x.inter, "1  1.1 E")...)
		givesAll(t, q, 2, of(x.inter, "1 f 0.0 BE")...)
	}
}

// A Reset changes no turn.
func TestResetKeepsTurns(t *testing.T) {
	for _, reset := range [][]uint16{{}, {1}, {2}, {3}, {1, 2, 3}} {
		q := pushed(t, false, "1 ab", "2 c", "3 d")
		gives(t, q, 1, "1 a 0 B")
		q.Reset(reset...)
		givesAll(t, q, 1, "1 b 0 E", "2 c 0 BE", "3 d 0 BE")
		q = pushed(t, true, "1 ab", "2 c", "3 d")
		gives(t, q, 1, "1 a 0.0 B")
		q.Reset(reset...)
		givesAll(t, q, 1, "2 c 0.0 BE", "3 d 0.0 BE", "1 b 0.1 E")
	}
}

// P17.4

// carry all that a queue has to a joiner, with consecutive Tsns from next on.
func carry(q *Queue, j *join.Joiner, next *uint32, most func() int) {
	for {
		c, _, _, ok := q.Next(most())
		if !ok {
			return
		}
		c.Tsn = *next
		*next++
		j.Put(c)
	}
}

// What is joined is what was pushed, stream by stream in order.
func TestThroughJoiner(t *testing.T) {
	r := rand.New(rand.NewSource(174))
	for run := range 200 {
		x := rooms[run%2]
		q, j := New(x.inter), join.New(x.inter)
		sent, came := map[uint16][]string{}, map[uint16][]string{}
		next := uint32(math.MaxUint32 - 50)
		for range 4 {
			for range r.Intn(30) {
				m := api.Message{Stream: uint16(r.Intn(4)), Loose: r.Intn(3) == 0, Ppid: r.Uint32(), Body: make([]byte, 1+r.Intn(3000))}
				r.Read(m.Body)
				q.Push(1, always, m)
				sent[m.Stream] = append(sent[m.Stream], fmt.Sprint(m.Loose, m.Ppid, m.Body))
			}
			most := 1 + r.Intn(x.room)
			carry(q, j, &next, func() int { return 1 + r.Intn(most) })
		}
		for {
			m, ok := j.Take()
			if !ok {
				break
			}
			came[m.Stream] = append(came[m.Stream], fmt.Sprint(m.Loose, m.Ppid, m.Body))
		}
		if fmt.Sprint(sent) != fmt.Sprint(came) {
			t.Fatalf("run %d: what came is not what was sent", run)
		}
	}
}

// What is dropped does not block what comes after it, once the joiner knows that it will not come.
func TestThroughJoinerWithDrops(t *testing.T) {
	for _, x := range rooms {
		q, j := pushed(t, x.inter, "1 abcd", "1 ef", "1 gh", "2 ij"), join.New(x.inter)
		c, _, _, _ := q.Next(2)
		c.Tsn = 1
		j.Put(c)
		_, ends := q.Drop(1)
		j.Skip(api.Skip{Stream: ends[0].Stream, Loose: ends[0].Loose, Mid: ends[0].Mid})
		j.Pass(2)
		q.Drop(2)
		next := uint32(3)
		carry(q, j, &next, func() int { return 1 })
		var came []string
		for {
			m, ok := j.Take()
			if !ok {
				break
			}
			came = append(came, string(m.Body))
		}
		slices.Sort(came)
		if !slices.Equal(came, []string{"gh", "ij"}) || j.Held() != 0 {
			t.Errorf("%q came, and %d bytes are held", came, j.Held())
		}
	}
}

// A message that is written into after the Push is sent as it was, and is not changed.
func TestPushKeepsNothing(t *testing.T) {
	for _, x := range rooms {
		whole := []byte("0123456789")
		q := New(x.inter)
		q.Push(1, always, api.Message{Stream: 1, Body: whole[2:6]})
		for i := range whole {
			whole[i] = 'x'
		}
		c, _, _, _ := q.Next(3)
		d, _, _, _ := q.Next(3)
		if string(c.Body) != "234" || string(d.Body) != "5" {
			t.Errorf("%s, %s", c.Body, d.Body)
		}
		for _, b := range [][]byte{c.Body, d.Body} {
			b = b[:cap(b)]
			for i := range b {
				b[i] = 'y'
			}
		}
		if string(whole) != "xxxxxxxxxx" {
			t.Errorf("the message is changed: %s", whole)
		}
		streams := []uint16{3, 1, 2}
		q.Reset(streams...)
		if !slices.Equal(streams, []uint16{3, 1, 2}) {
			t.Errorf("the streams are changed: %d", streams)
		}
	}
}

// Fragments are new memory, with their spare capacity: what is written there is in no other one, nor in the queue.
func TestResultsAreNewMemory(t *testing.T) {
	for _, x := range rooms {
		q := pushed(t, x.inter, "1 abcdefghijklmnop", "1 q")
		var all []api.Chunk
		for q.Bytes(1) > 1 {
			c, _, _, _ := q.Next(3)
			want := slices.Clone(c.Body)
			spare := c.Body[len(c.Body):cap(c.Body)]
			for i := range spare {
				spare[i] = 'y'
			}
			all = append(all, c)
			if !bytes.Equal(c.Body, want) {
				t.Errorf("%s, want %s", c.Body, want)
			}
		}
		var body []byte
		for _, c := range all {
			body = append(body, c.Body...)
			for i := range c.Body {
				c.Body[i] = 'z'
			}
		}
		if string(body) != "abcdefghijklmnop" {
			t.Errorf("%s", body)
		}
		givesAll(t, q, 1, of(x.inter, "1 q 1.0 BE")...)
	}
	q := pushed(t, true, "1 ab", "2 cd", "3 ef")
	for id := range 3 {
		push(t, q, 9, fmt.Sprintf("%d ghi", 4+id))
	}
	for range 6 {
		q.Next(1)
	}
	_, ends := q.Drop(9)
	for i := range ends[:cap(ends)] {
		ends[:cap(ends)][i] = api.Chunk{Kind: 99}
	}
	givesAll(t, q, 1, "1 b 0.1 E", "2 d 0.1 E", "3 f 0.1 E")
}

// Queues are apart from each other.
func TestQueuesApart(t *testing.T) {
	a, b := pushed(t, true, "1 ab", "2 c"), pushed(t, false, "1 de")
	gives(t, a, 1, "1 a 0.0 B")
	gives(t, b, 1, "1 d 0 B")
	a.Reset()
	drops(t, b, 1, 1, "1  0 E")
	givesAll(t, a, 1, "2 c 0.0 BE", "1 b 0.1 E")
	waits(t, b, 1, 0, 0)
	givesNone(t, New(true), 1)
}

// Many messages

// orders in which 262144 messages may be dropped, some of which could be slow.
func TestMany(t *testing.T) {
	const n = 262144
	orders := map[string]func(i int) int{
		"up":    func(i int) int { return i },
		"down":  func(i int) int { return n - 1 - i },
		"mixed": func(i int) int { return i * 7919 % n },
	}
	for _, streams := range []int{1, 1024, 65536} {
		for name, order := range orders {
			q := New(streams > 1)
			for i := range n {
				q.Push(i, always, api.Message{Stream: uint16(i % streams), Body: []byte("a")})
			}
			refuses(t, q, 1, 1, api.ErrFull)
			for i := range n / 2 {
				if left, ends := q.Drop(order(i)); left != 1 || len(ends) != 0 {
					t.Fatalf("%s: Drop = %d, %d", name, left, len(ends))
				}
				if left, _ := q.Drop(order(i)); left != 0 {
					t.Fatalf("%s: Drop anew = %d", name, left)
				}
			}
			for q.All() > 0 {
				if _, id, _, ok := q.Next(9); !ok || slices.Contains([]int{order(0), order(n/2 - 1)}, id) {
					t.Fatalf("%s: Next gives %d, %v", name, id, ok)
				}
			}
		}
	}
}

// Messages of many streams that are all begun, and messages of one number.
func TestManyBegun(t *testing.T) {
	const n = 65536
	for _, same := range []bool{false, true} {
		q := New(true)
		for i := range n {
			id := i
			if same {
				id = 5
			}
			q.Push(id, always, api.Message{Stream: uint16(i * 7919), Body: []byte("abcd")})
		}
		for range n {
			q.Next(1)
		}
		var ends []api.Chunk
		for i := range n {
			_, some := q.Drop(i)
			ends = append(ends, some...)
		}
		for i, c := range ends {
			if c.Stream != uint16(i*7919) {
				t.Fatalf("fragment %d is of the stream %d", i, c.Stream)
			}
		}
		if len(ends) != n || q.All() != 0 {
			t.Errorf("%d fragments, and %d bytes are left", len(ends), q.All())
		}
	}
}

// What was sent or dropped is not kept.
func TestNothingIsKept(t *testing.T) {
	for _, x := range rooms {
		q := New(x.inter)
		for i := range 100000 {
			q.Push(i, always, api.Message{Stream: uint16(i), Loose: !x.inter, Body: []byte("ab")})
			if i%2 == 0 {
				q.Next(1 + i%4)
			}
			if i%3 == 0 {
				q.Next(1)
			}
			q.Drop(i)
		}
		q.Reset()
		if len(q.streams)+len(q.numbered)+len(q.mids) != 0 || !q.turns.empty() || q.turns.last != nil || q.All() != 0 {
			t.Errorf("%d streams, %d numbers, %d Mids, %d bytes are kept", len(q.streams), len(q.numbered), len(q.mids), q.All())
		}
	}
}
