package chunk

import (
	"bytes"
	"fmt"
	"math/rand"
	"reflect"
	"slices"
	"strings"
	"testing"

	"flume/api"
)

// kinds of the chapter's table.
var kinds = []api.ChunkKind{0, 1, 2, 3, 4, 5, 6, 7, 8, 9, 10, 11, 14, 64, 130, 192, 194}

// others are all kinds that are not in it.
func others() []api.ChunkKind {
	var ks []api.ChunkKind
	for k := range 256 {
		if !slices.Contains(kinds, api.ChunkKind(k)) {
			ks = append(ks, api.ChunkKind(k))
		}
	}
	return ks
}

func rising(n int) []byte {
	b := make([]byte, n)
	for i := range b {
		b[i] = byte(i + 1)
	}
	return b
}

func same(a, b api.Chunk) bool {
	if !slices.Equal(a.Gaps, b.Gaps) || !slices.Equal(a.Dups, b.Dups) || !slices.Equal(a.Skips, b.Skips) ||
		!bytes.Equal(a.Body, b.Body) || !slices.EqualFunc(a.Params, b.Params, sameParam) {
		return false
	}
	// The lists are equal; whether an empty one is nil doesn't matter.
	for _, c := range []*api.Chunk{&a, &b} {
		c.Gaps, c.Dups, c.Skips, c.Params, c.Body = nil, nil, nil, nil, nil
	}
	return reflect.DeepEqual(a, b)
}

func sameParam(a, b api.Param) bool {
	return a.Kind == b.Kind && bytes.Equal(a.Value, b.Value)
}

// padded with zeros to a multiple of four.
func padded(s string) string {
	for len(s)%4 != 0 {
		s += "\x00"
	}
	return s
}

// raw is a chunk of the kind, the flags and what follows the length, whether it is valid or not.
func raw(kind api.ChunkKind, flags byte, contents string) string {
	n := len(contents) + 4
	return padded(string([]byte{byte(kind), flags, byte(n / 256), byte(n % 256)}) + contents)
}

// brief is the beginning of a chunk as text.
func brief(c api.Chunk) string {
	return fmt.Sprintf("%.200s", fmt.Sprint(c))
}

// puts: does Put return the bytes?
func puts(t *testing.T, c api.Chunk, want string) {
	t.Helper()
	if b, err := Put(c); err != api.OK || string(b) != want {
		t.Errorf("Put(%s) = %.100q, %v, want %.100q", brief(c), b, err, want)
	}
}

// takes: does Get return the chunk and its bytes, whatever follows it?
func takes(t *testing.T, s string, want api.Chunk) {
	t.Helper()
	for _, tail := range []string{"", "\x00", "\x01", "\x07\x00\x00\x08\x00\x00\x00\x05", "\xFF\xFF\xFF\xFF\xFF"} {
		c, n, err := Get([]byte(s + tail))
		if err != api.OK || n != len(s) || !same(c, want) {
			t.Errorf("Get(%.100q and %q) = %s, %d, %v, want %s", s, tail, brief(c), n, err, brief(want))
		}
	}
}

// gives: do the chunk and the bytes lead to each other?
func gives(t *testing.T, c api.Chunk, s string) {
	t.Helper()
	puts(t, c, s)
	takes(t, s, c)
}

// refuses: does Get return nothing but this error?
func refuses(t *testing.T, s string, want api.Errno) {
	t.Helper()
	if c, n, err := Get([]byte(s)); err != want || n != 0 || !same(c, api.Chunk{}) {
		t.Errorf("Get(%.100q) = %s, %d, %v, want %v", s, brief(c), n, err, want)
	}
}

// refusesPut: does Put return none, and this error?
func refusesPut(t *testing.T, name string, c api.Chunk, want api.Errno) {
	t.Helper()
	if b, err := Put(c); err != want || len(b) > 0 {
		t.Errorf("%s of kind %d: Put = %d bytes, %v, want none, %v", name, c.Kind, len(b), err, want)
	}
}

// sample: a chunk, and its bytes written by hand.
type sample struct {
	c api.Chunk
	s string
}

// samples of all kinds, with all that each of them has.
func samples() []sample {
	ps := []api.Param{{Kind: 0x8008, Value: []byte("@")}, {Kind: 7, Value: []byte("cookie")}}
	encoded := "\x80\x08\x00\x05@\x00\x00\x00\x00\x07\x00\x0Acookie\x00\x00"
	greeting := api.Chunk{Tag: 0x11121314, Window: 0x21222324, Out: 0x3132, In: 0x4142, Tsn: 0x51525354, Params: ps}
	greeted := "\x11\x12\x13\x14\x21\x22\x23\x24\x31\x32\x41\x42\x51\x52\x53\x54" + encoded
	first, second := greeting, greeting
	first.Kind, second.Kind = api.Init, api.InitAck
	return []sample{
		{api.Chunk{Kind: api.Data, End: true, Begin: true, Tsn: 0x11121314, Stream: 0x2122, Mid: 0x3132, Ppid: 0x41424344, Body: []byte("abc")},
			"\x00\x03\x00\x13\x11\x12\x13\x14\x21\x22\x31\x32\x41\x42\x43\x44abc\x00"},
		{first, "\x01\x00\x00\x28" + greeted},
		{second, "\x02\x00\x00\x28" + greeted},
		{api.Chunk{Kind: api.Sack, Tsn: 0x11121314, Window: 0x21222324, Gaps: []api.Gap{{From: 0x0203, To: 0x0405}, {From: 0x0607, To: 0x0809}}, Dups: []uint32{0x31323334}},
			"\x03\x00\x00\x1C\x11\x12\x13\x14\x21\x22\x23\x24\x00\x02\x00\x01\x02\x03\x04\x05\x06\x07\x08\x09\x31\x32\x33\x34"},
		{api.Chunk{Kind: api.Beat, Body: []byte("thump")}, "\x04\x00\x00\x09thump\x00\x00\x00"},
		{api.Chunk{Kind: api.BeatAck, Body: []byte("thumps")}, "\x05\x00\x00\x0Athumps\x00\x00"},
		{api.Chunk{Kind: api.Abort, Bare: true, Params: ps}, "\x06\x01\x00\x18" + encoded},
		{api.Chunk{Kind: api.Shutdown, Tsn: 0x11121314}, "\x07\x00\x00\x08\x11\x12\x13\x14"},
		{api.Chunk{Kind: api.ShutdownAck}, "\x08\x00\x00\x04"},
		{api.Chunk{Kind: api.Fault, Params: ps}, "\x09\x00\x00\x18" + encoded},
		{api.Chunk{Kind: api.CookieEcho, Body: []byte("cookies")}, "\x0A\x00\x00\x0Bcookies\x00"},
		{api.Chunk{Kind: api.CookieAck}, "\x0B\x00\x00\x04"},
		{api.Chunk{Kind: api.ShutdownDone, Bare: true}, "\x0E\x01\x00\x04"},
		{api.Chunk{Kind: api.IData, Begin: true, Tsn: 0x11121314, Stream: 0x2122, Mid: 0x31323334, Ppid: 0x41424344, Body: []byte("ab")},
			"\x40\x02\x00\x16\x11\x12\x13\x14\x21\x22\x00\x00\x31\x32\x33\x34\x41\x42\x43\x44ab\x00\x00"},
		{api.Chunk{Kind: api.IData, Loose: true, End: true, Tsn: 0x11121314, Stream: 0x2122, Mid: 0x31323334, Frag: 0x51525354, Body: []byte("abcd")},
			"\x40\x05\x00\x18\x11\x12\x13\x14\x21\x22\x00\x00\x31\x32\x33\x34\x51\x52\x53\x54abcd"},
		{api.Chunk{Kind: api.Config, Params: ps}, "\x82\x00\x00\x18" + encoded},
		{api.Chunk{Kind: api.Forward, Tsn: 0x11121314, Skips: []api.Skip{{Stream: 0x2122, Mid: 0x3132}, {Stream: 0x4142, Mid: 0x5152}}},
			"\xC0\x00\x00\x10\x11\x12\x13\x14\x21\x22\x31\x32\x41\x42\x51\x52"},
		{api.Chunk{Kind: api.IForward, Tsn: 0x11121314, Skips: []api.Skip{{Stream: 0x2122, Mid: 0x31323334}, {Stream: 0x4142, Loose: true, Mid: 0x51525354}}},
			"\xC2\x00\x00\x18\x11\x12\x13\x14\x21\x22\x00\x00\x31\x32\x33\x34\x41\x42\x00\x01\x51\x52\x53\x54"},
	}
}

// flagsOf are the flags that a kind has.
func flagsOf(kind api.ChunkKind) byte {
	switch kind {
	case 0, 64:
		return 7
	case 6, 14:
		return 1
	}
	return 0
}

// number of so many bytes, the most significant first.
func number(size int, v uint32) []byte {
	b := make([]byte, size)
	for i := range b {
		b[size-1-i] = byte(v)
		v /= 256
	}
	return b
}

// numberAt reads so many bytes from an offset on.
func numberAt(b []byte, at, size int) uint32 {
	var v uint32
	for _, x := range b[at : at+size] {
		v = v*256 + uint32(x)
	}
	return v
}

// only what the kind of a chunk has, as the chapter's table tells it.
func only(c api.Chunk) api.Chunk {
	o := api.Chunk{Kind: c.Kind}
	switch c.Kind {
	case 0, 64:
		o.Begin, o.End, o.Loose, o.Tsn, o.Stream, o.Body = c.Begin, c.End, c.Loose, c.Tsn, c.Stream, c.Body
		switch {
		case c.Kind == 0:
			o.Mid, o.Ppid = c.Mid%65536, c.Ppid
		case c.Begin:
			o.Mid, o.Ppid = c.Mid, c.Ppid
		default:
			o.Mid, o.Frag = c.Mid, c.Frag
		}
	case 1, 2:
		o.Tag, o.Window, o.Out, o.In, o.Tsn, o.Params = c.Tag, c.Window, c.Out, c.In, c.Tsn, c.Params
	case 3:
		o.Tsn, o.Window, o.Gaps, o.Dups = c.Tsn, c.Window, c.Gaps, c.Dups
	case 4, 5, 10:
		o.Body = c.Body
	case 6:
		o.Bare, o.Params = c.Bare, c.Params
	case 9, 130:
		o.Params = c.Params
	case 7:
		o.Tsn = c.Tsn
	case 14:
		o.Bare = c.Bare
	case 192:
		o.Tsn = c.Tsn
		for _, s := range c.Skips {
			o.Skips = append(o.Skips, api.Skip{Stream: s.Stream, Mid: s.Mid % 65536})
		}
	case 194:
		o.Tsn, o.Skips = c.Tsn, c.Skips
	}
	return o
}

// encoded is a chunk as the chapter tells it, byte by byte.
func encoded(c api.Chunk) string {
	var flags byte
	if c.Bare || c.End {
		flags++
	}
	if c.Begin {
		flags += 2
	}
	if c.Loose {
		flags += 4
	}
	var b []byte
	switch c.Kind {
	case 0:
		b = slices.Concat(number(4, c.Tsn), number(2, uint32(c.Stream)), number(2, c.Mid), number(4, c.Ppid), c.Body)
	case 64:
		b = slices.Concat(number(4, c.Tsn), number(2, uint32(c.Stream)), number(2, 0), number(4, c.Mid), number(4, c.Ppid+c.Frag), c.Body)
	case 1, 2:
		b = slices.Concat(number(4, c.Tag), number(4, c.Window), number(2, uint32(c.Out)), number(2, uint32(c.In)), number(4, c.Tsn))
	case 3:
		b = slices.Concat(number(4, c.Tsn), number(4, c.Window), number(2, uint32(len(c.Gaps))), number(2, uint32(len(c.Dups))))
	case 4, 5, 10:
		b = c.Body
	case 7, 192, 194:
		b = number(4, c.Tsn)
	}
	for _, g := range c.Gaps {
		b = slices.Concat(b, number(2, uint32(g.From)), number(2, uint32(g.To)))
	}
	for _, d := range c.Dups {
		b = slices.Concat(b, number(4, d))
	}
	for _, s := range c.Skips {
		switch {
		case c.Kind == 192:
			b = slices.Concat(b, number(2, uint32(s.Stream)), number(2, s.Mid))
		case s.Loose:
			b = slices.Concat(b, number(2, uint32(s.Stream)), []byte{0, 1}, number(4, s.Mid))
		default:
			b = slices.Concat(b, number(2, uint32(s.Stream)), []byte{0, 0}, number(4, s.Mid))
		}
	}
	for _, p := range c.Params {
		b = slices.Concat(b, number(2, uint32(p.Kind)), number(2, uint32(len(p.Value)+4)), []byte(padded(string(p.Value))))
	}
	return raw(c.Kind, flags, string(b))
}

// decoded is what the chapter tells of bytes, by offsets.
func decoded(b []byte) (api.Chunk, int, api.Errno) {
	if len(b) < 4 {
		return api.Chunk{}, 0, api.ErrShort
	}
	length := int(numberAt(b, 2, 2))
	if length < 4 {
		return api.Chunk{}, 0, api.ErrForm
	}
	end := length
	for end%4 != 0 {
		end++
	}
	if end > len(b) {
		return api.Chunk{}, 0, api.ErrShort
	}
	for _, x := range b[length:end] {
		if x != 0 {
			return api.Chunk{}, 0, api.ErrForm
		}
	}
	c := api.Chunk{Kind: api.ChunkKind(b[0])}
	if !slices.Contains(kinds, c.Kind) {
		return api.Chunk{}, 0, api.ErrKind
	}
	if b[1] > flagsOf(c.Kind) || !decodedContents(&c, b[1], b[:length]) {
		return api.Chunk{}, 0, api.ErrForm
	}
	return c, end, api.OK
}

// decodedContents of a chunk, whose bytes are without its padding.
func decodedContents(c *api.Chunk, flags byte, b []byte) bool {
	if c.Kind == 0 || c.Kind == 64 {
		c.End, c.Begin, c.Loose = flags%2 == 1, flags/2%2 == 1, flags/4 == 1
	} else {
		c.Bare = flags == 1
	}
	switch c.Kind {
	case 0:
		if len(b) < 17 {
			return false
		}
		c.Tsn, c.Stream, c.Mid, c.Ppid, c.Body = numberAt(b, 4, 4), uint16(numberAt(b, 8, 2)), numberAt(b, 10, 2), numberAt(b, 12, 4), b[16:]
	case 64:
		if len(b) < 21 || b[10] != 0 || b[11] != 0 {
			return false
		}
		c.Tsn, c.Stream, c.Mid, c.Body = numberAt(b, 4, 4), uint16(numberAt(b, 8, 2)), numberAt(b, 12, 4), b[20:]
		if c.Begin {
			c.Ppid = numberAt(b, 16, 4)
		} else {
			c.Frag = numberAt(b, 16, 4)
		}
	case 1, 2:
		if len(b) < 20 {
			return false
		}
		c.Tag, c.Window, c.Out, c.In, c.Tsn = numberAt(b, 4, 4), numberAt(b, 8, 4), uint16(numberAt(b, 12, 2)), uint16(numberAt(b, 14, 2)), numberAt(b, 16, 4)
		return decodedParams(c, b[20:])
	case 6, 9, 130:
		return decodedParams(c, b[4:])
	case 3:
		return decodedSack(c, b)
	case 4, 5, 10:
		c.Body = b[4:]
	case 7:
		if len(b) != 8 {
			return false
		}
		c.Tsn = numberAt(b, 4, 4)
	case 8, 11, 14:
		return len(b) == 4
	case 192, 194:
		return decodedSkips(c, b)
	}
	return true
}

func decodedSack(c *api.Chunk, b []byte) bool {
	if len(b) < 16 {
		return false
	}
	c.Tsn, c.Window = numberAt(b, 4, 4), numberAt(b, 8, 4)
	dups := 16 + 4*int(numberAt(b, 12, 2))
	if len(b) != dups+4*int(numberAt(b, 14, 2)) {
		return false
	}
	for at := 16; at < len(b); at += 4 {
		if at < dups {
			c.Gaps = append(c.Gaps, api.Gap{From: uint16(numberAt(b, at, 2)), To: uint16(numberAt(b, at+2, 2))})
		} else {
			c.Dups = append(c.Dups, numberAt(b, at, 4))
		}
	}
	return true
}

func decodedSkips(c *api.Chunk, b []byte) bool {
	each := 4
	if c.Kind == 194 {
		each = 8
	}
	if len(b) < 8 || (len(b)-8)%each != 0 {
		return false
	}
	c.Tsn = numberAt(b, 4, 4)
	for at := 8; at < len(b); at += each {
		s := api.Skip{Stream: uint16(numberAt(b, at, 2))}
		if each == 4 {
			s.Mid = numberAt(b, at+2, 2)
		} else if b[at+2] != 0 || b[at+3] > 1 {
			return false
		} else {
			s.Loose, s.Mid = b[at+3] == 1, numberAt(b, at+4, 4)
		}
		c.Skips = append(c.Skips, s)
	}
	return true
}

func decodedParams(c *api.Chunk, b []byte) bool {
	for at := 0; at < len(b); {
		if len(b)-at < 4 {
			return false
		}
		n := int(numberAt(b, at+2, 2))
		end := at + (n+3)/4*4
		if n < 4 || end > len(b) || strings.Trim(string(b[at+n:end]), "\x00") != "" {
			return false
		}
		c.Params = append(c.Params, api.Param{Kind: uint16(numberAt(b, at, 2)), Value: b[at+4 : at+n]})
		at = end
	}
	return true
}

// some chunk of a kind, in which all fields may be set, also those that it does not have.
func some(r *rand.Rand, kind api.ChunkKind) api.Chunk {
	flip := func() bool { return r.Intn(2) == 1 }
	c := api.Chunk{
		Kind: kind, Begin: flip(), End: flip(), Loose: flip(), Bare: flip(),
		Tsn: r.Uint32(), Stream: uint16(r.Uint32()), Mid: r.Uint32(), Ppid: r.Uint32(), Frag: r.Uint32(),
		Tag: r.Uint32(), Window: r.Uint32(), Out: uint16(r.Uint32()), In: uint16(r.Uint32()),
		Body: make([]byte, 1+r.Intn(20)),
	}
	r.Read(c.Body)
	for range r.Intn(4) {
		c.Gaps = append(c.Gaps, api.Gap{From: uint16(r.Uint32()), To: uint16(r.Uint32())})
	}
	for range r.Intn(4) {
		c.Dups = append(c.Dups, r.Uint32())
	}
	for range r.Intn(4) {
		c.Skips = append(c.Skips, api.Skip{Stream: uint16(r.Uint32()), Loose: flip(), Mid: r.Uint32()})
	}
	for range r.Intn(4) {
		c.Params = append(c.Params, api.Param{Kind: uint16(r.Uint32()), Value: make([]byte, r.Intn(12))})
		r.Read(c.Params[len(c.Params)-1].Value)
	}
	return c
}

// agrees: does Get return what decoded does, and does Put reverse it?
func agrees(t *testing.T, b []byte) {
	t.Helper()
	c, n, err := Get(b)
	want, wantN, wantErr := decoded(b)
	if err != wantErr || n != wantN || !same(c, want) {
		t.Fatalf("Get(%x) = %v, %d, %v, want %v, %d, %v", b, c, n, err, want, wantN, wantErr)
	}
	if err != api.OK {
		return
	}
	if back, err := Put(c); err != api.OK || !bytes.Equal(back, b[:n]) {
		t.Fatalf("Put(Get(%x)) = %x, %v", b, back, err)
	}
}

// The chapter's examples

func TestExamples(t *testing.T) {
	gives(t, api.Chunk{Kind: api.Shutdown, Tsn: 5}, "\x07\x00\x00\x08\x00\x00\x00\x05")
	gives(t, api.Chunk{Kind: api.Data, Begin: true, End: true, Tsn: 1, Stream: 2, Mid: 3, Ppid: 51, Body: []byte("a")},
		"\x00\x03\x00\x11\x00\x00\x00\x01\x00\x02\x00\x03\x00\x00\x00\x33a\x00\x00\x00")
}

// P6.1

func TestPutEach(t *testing.T) {
	for _, x := range samples() {
		puts(t, x.c, x.s)
	}
}

// Chunks with nothing but what they must have.
func TestPutLeast(t *testing.T) {
	least := map[api.ChunkKind]string{
		api.Data: strings.Repeat("\x00", 12) + "\x00", api.IData: strings.Repeat("\x00", 16) + "\x00",
		api.Init: strings.Repeat("\x00", 16), api.InitAck: strings.Repeat("\x00", 16), api.Sack: strings.Repeat("\x00", 12),
		api.Shutdown: "\x00\x00\x00\x00", api.Forward: "\x00\x00\x00\x00", api.IForward: "\x00\x00\x00\x00",
	}
	for _, k := range kinds {
		c := api.Chunk{Kind: k}
		if k == api.Data || k == api.IData {
			c.Body = []byte{0}
		}
		gives(t, c, raw(k, 0, least[k]))
	}
}

// All flags together, for each kind: those that it has are put, and no others.
func TestPutFlags(t *testing.T) {
	for _, x := range samples() {
		for bits := range 16 {
			c := x.c
			c.End, c.Begin, c.Loose, c.Bare = bits&1 != 0, bits&2 != 0, bits&4 != 0, bits&8 != 0
			want := byte(0)
			switch c.Kind {
			case api.Data, api.IData:
				want = byte(bits % 8)
			case api.Abort, api.ShutdownDone:
				want = byte(bits / 8)
			}
			if b, err := Put(c); err != api.OK || b[1] != want || b[0] != byte(c.Kind) {
				t.Errorf("kind %d with flags %04b: Put = %x, %v, want flags %d", c.Kind, bits, b, err, want)
			}
		}
	}
}

// What a kind does not have is ignored: whatever stands in it, the bytes are the same.
func TestPutIgnores(t *testing.T) {
	for seed := range int64(300) {
		r := rand.New(rand.NewSource(seed))
		for _, k := range kinds {
			c := some(r, k)
			puts(t, c, encoded(only(c)))
		}
	}
}

// Also what is too long, or would be an error in another kind.
func TestPutIgnoresLong(t *testing.T) {
	long := api.Chunk{
		Gaps: make([]api.Gap, 70000), Dups: make([]uint32, 70000), Skips: make([]api.Skip, 70000),
		Params: []api.Param{{Value: make([]byte, 70000)}}, Body: make([]byte, 70000),
	}
	for _, x := range samples() {
		c := x.c
		if c.Gaps == nil {
			c.Gaps, c.Dups = long.Gaps, long.Dups
		}
		if c.Skips == nil {
			c.Skips = long.Skips
		}
		if c.Params == nil {
			c.Params = long.Params
		}
		if c.Body == nil {
			c.Body = long.Body
		}
		puts(t, c, x.s)
	}
}

// Numbers of messages, of sixteen bits and of 32.
func TestPutMids(t *testing.T) {
	for _, mid := range []uint32{0, 1, 0xFFFF, 0x10000, 0x10001, 0x12345678, 0xFFFF0000, 0xFFFFFFFF} {
		low, whole := string(number(2, mid)), string(number(4, mid))
		puts(t, api.Chunk{Kind: api.Data, Mid: mid, Body: []byte("a")}, raw(api.Data, 0, "\x00\x00\x00\x00\x00\x00"+low+"\x00\x00\x00\x00a"))
		puts(t, api.Chunk{Kind: api.IData, Mid: mid, Body: []byte("a")}, raw(api.IData, 0, "\x00\x00\x00\x00\x00\x00\x00\x00"+whole+"\x00\x00\x00\x00a"))
		skips := []api.Skip{{Stream: 1, Mid: mid}}
		puts(t, api.Chunk{Kind: api.Forward, Skips: skips}, raw(api.Forward, 0, "\x00\x00\x00\x00\x00\x01"+low))
		puts(t, api.Chunk{Kind: api.IForward, Skips: skips}, raw(api.IForward, 0, "\x00\x00\x00\x00\x00\x01\x00\x00"+whole))
	}
}

// A fragment of an IData has its Ppid if it is the first one, and otherwise its number.
func TestIDataFields(t *testing.T) {
	for bits := range 8 {
		c := api.Chunk{Kind: api.IData, End: bits&1 != 0, Begin: bits&2 != 0, Loose: bits&4 != 0, Ppid: 51, Frag: 7, Body: []byte("a")}
		field := "\x00\x00\x00\x07"
		if c.Begin {
			field = "\x00\x00\x00\x33"
		}
		s := raw(api.IData, byte(bits), strings.Repeat("\x00", 12)+field+"a")
		puts(t, c, s)
		takes(t, s, only(c))
	}
}

// Bodies of all lengths at each place of the padding.
func TestPadding(t *testing.T) {
	for n := range 30 {
		body := rising(n)
		for _, k := range []api.ChunkKind{api.Beat, api.BeatAck, api.CookieEcho} {
			gives(t, api.Chunk{Kind: k, Body: body}, raw(k, 0, string(body)))
		}
		if n > 0 {
			gives(t, api.Chunk{Kind: api.Data, Body: body}, raw(api.Data, 0, strings.Repeat("\x00", 12)+string(body)))
			gives(t, api.Chunk{Kind: api.IData, Body: body}, raw(api.IData, 0, strings.Repeat("\x00", 16)+string(body)))
		}
		// The padding of a parameter counts in the length.
		ps := []api.Param{{Kind: 9, Value: body}}
		s := padded("\x00\x09\x00" + string([]byte{byte(n + 4)}) + string(body))
		for _, k := range []api.ChunkKind{api.Abort, api.Fault, api.Config} {
			gives(t, api.Chunk{Kind: k, Params: ps}, raw(k, 0, s))
		}
		gives(t, api.Chunk{Kind: api.Init, Params: ps}, raw(api.Init, 0, strings.Repeat("\x00", 16)+s))
	}
}

func TestPutUnknownKinds(t *testing.T) {
	ks := others()
	if len(ks) != 256-17 {
		t.Fatalf("%d kinds are not in the table", len(ks))
	}
	for _, k := range ks {
		refusesPut(t, "nothing", api.Chunk{Kind: k}, api.ErrKind)
		refusesPut(t, "a body", api.Chunk{Kind: k, Body: []byte("a")}, api.ErrKind)
		// It is first, also where all else is wrong.
		refusesPut(t, "too much", api.Chunk{Kind: k, Body: make([]byte, 70000), Gaps: make([]api.Gap, 70000), Params: []api.Param{{Value: make([]byte, 70000)}}}, api.ErrKind)
	}
}

func TestPutWithoutBody(t *testing.T) {
	for _, k := range []api.ChunkKind{api.Data, api.IData} {
		for _, body := range [][]byte{nil, {}, []byte("abc")[:0]} {
			refusesPut(t, "no body", api.Chunk{Kind: k, Body: body}, api.ErrForm)
			refusesPut(t, "a last one", api.Chunk{Kind: k, Begin: true, End: true, Tsn: 5, Ppid: 51, Body: body}, api.ErrForm)
			refusesPut(t, "no body, but much else", api.Chunk{Kind: k, Body: body, Gaps: make([]api.Gap, 70000), Params: []api.Param{{Value: make([]byte, 70000)}}}, api.ErrForm)
		}
	}
}

// The longest body of each kind, and one byte more, and so much that a length in sixteen bits would go round.
func TestPutBodyLength(t *testing.T) {
	for k, most := range map[api.ChunkKind]int{api.Data: 65519, api.IData: 65515, api.Beat: 65531, api.BeatAck: 65531, api.CookieEcho: 65531} {
		for n := most - 4; n <= most; n++ {
			c := api.Chunk{Kind: k, Body: rising(n)}
			gives(t, c, encoded(c))
		}
		for _, n := range []int{most + 1, most + 2, most + 5, 65536, 65540, 1 << 17, 1 << 20} {
			refusesPut(t, "a long body", api.Chunk{Kind: k, Body: make([]byte, n)}, api.ErrLong)
		}
	}
}

func TestPutSackLength(t *testing.T) {
	for _, x := range [][2]int{{16379, 0}, {0, 16379}, {8000, 8379}, {16378, 1}, {1, 16378}, {255, 256}, {16378, 0}} {
		c := api.Chunk{Kind: api.Sack, Tsn: 1, Window: 2, Gaps: make([]api.Gap, x[0]), Dups: make([]uint32, x[1])}
		for i := range c.Gaps {
			c.Gaps[i] = api.Gap{From: uint16(i), To: uint16(i + 9)}
		}
		for i := range c.Dups {
			c.Dups[i] = uint32(i) * 70001
		}
		b, err := Put(c)
		if err != api.OK || len(b) != 16+4*(x[0]+x[1]) {
			t.Fatalf("Put of %v = %d bytes, %v", x, len(b), err)
		}
		agrees(t, b)
		if back, _, _ := Get(b); !same(back, c) {
			t.Errorf("Put and Get of %v change it", x)
		}
	}
	for _, x := range [][2]int{{16380, 0}, {0, 16380}, {16379, 1}, {1, 16379}, {65535, 0}, {0, 65535}, {65535, 65535}, {65536, 0}, {0, 65536}, {65536, 65536}, {65537, 1}, {1, 65537}, {131072, 3}, {3, 131072}} {
		refusesPut(t, "a long one", api.Chunk{Kind: api.Sack, Gaps: make([]api.Gap, x[0]), Dups: make([]uint32, x[1])}, api.ErrLong)
	}
}

func TestPutSkipsLength(t *testing.T) {
	for k, most := range map[api.ChunkKind]int{api.Forward: 16381, api.IForward: 8190} {
		c := api.Chunk{Kind: k, Skips: make([]api.Skip, most)}
		for i := range c.Skips {
			c.Skips[i] = api.Skip{Stream: uint16(i), Loose: k == api.IForward && i%3 == 0, Mid: uint32(i * 3 % 65536)}
		}
		b, err := Put(c)
		if err != api.OK {
			t.Fatalf("kind %d: Put of %d = %v", k, most, err)
		}
		agrees(t, b)
		if back, n, _ := Get(b); !same(back, c) || n != len(b) {
			t.Errorf("kind %d: Put and Get of %d change it", k, most)
		}
		for _, n := range []int{most + 1, most + 2, 2 * most, 16384, 65535, 65536, 65537, 1 << 18} {
			refusesPut(t, "a long one", api.Chunk{Kind: k, Skips: make([]api.Skip, n)}, api.ErrLong)
		}
	}
}

func TestPutParamsLength(t *testing.T) {
	for _, k := range []api.ChunkKind{api.Init, api.InitAck, api.Abort, api.Fault, api.Config} {
		most := 65524
		if k == api.Init || k == api.InitAck {
			most = 65508
		}
		for _, n := range []int{most, most - 1, most - 2, most - 3, most - 4} {
			c := api.Chunk{Kind: k, Params: []api.Param{{Kind: 1, Value: rising(n)}}}
			gives(t, c, encoded(c))
		}
		// The padding of one byte more is too much; from 65532 on it is the parameter that is too long.
		for _, n := range []int{most + 1, most + 4, 65531, 65532, 65533, 65536, 65540, 1 << 17} {
			refusesPut(t, "a long value", api.Chunk{Kind: k, Params: []api.Param{{Kind: 1, Value: make([]byte, n)}}}, api.ErrLong)
			refusesPut(t, "a long value", api.Chunk{Kind: k, Params: []api.Param{{}, {Kind: 1, Value: make([]byte, n)}, {}}}, api.ErrLong)
		}
		empty := make([]api.Param, (most+4)/4)
		if b, err := Put(api.Chunk{Kind: k, Params: empty}); err != api.OK || len(b) != 65532 {
			t.Errorf("Put of %d parameters = %d bytes, %v", len(empty), len(b), err)
		}
		refusesPut(t, "many parameters", api.Chunk{Kind: k, Params: append(empty, api.Param{})}, api.ErrLong)
		refusesPut(t, "so many that they go round", api.Chunk{Kind: k, Params: make([]api.Param, 1<<15)}, api.ErrLong)
	}
}

// Parameters that all have the same long value: their bytes, one behind the other, would fill any memory.
func TestPutParamsShared(t *testing.T) {
	ps := slices.Repeat([]api.Param{{Kind: 1, Value: make([]byte, 65531)}}, 1<<20)
	refusesPut(t, "shared values", api.Chunk{Kind: api.Config, Params: ps}, api.ErrLong)
}

// P6.2

func TestGetEach(t *testing.T) {
	for _, x := range samples() {
		takes(t, x.s, x.c)
	}
}

// Fewer than four bytes, whatever they are.
func TestGetShortHead(t *testing.T) {
	for _, s := range []string{"", "\x00", "\x07", "\xFF", "\x07\x00", "\x0D\xFF", "\x07\x00\x00", "\x00\x00\x00", "\xFF\xFF\xFF", "\x08\x00\x04"} {
		refuses(t, s, api.ErrShort)
	}
	refuses(t, string([]byte(nil)), api.ErrShort)
}

// A length that does not count the first four bytes, whatever the kind and what follows.
func TestGetLowLength(t *testing.T) {
	for k := range 256 {
		for n := range 4 {
			for _, tail := range []string{"", "\x00", "\x01\x02", "\x00\x00\x00\x00", "\x08\x00\x00\x04"} {
				for _, flags := range []byte{0, 1, 255} {
					refuses(t, string([]byte{byte(k), flags, 0, byte(n)})+tail, api.ErrForm)
				}
			}
		}
	}
}

// A chunk that ends too early, by one byte of its padding at least; bytes in the spare capacity are not of it.
func TestGetShort(t *testing.T) {
	for _, x := range samples() {
		b := []byte(x.s + "\x00\x00\x00\x00")
		for end := range len(x.s) {
			refuses(t, x.s[:end], api.ErrShort)
			if c, n, err := Get(b[:end]); err != api.ErrShort || n != 0 || !same(c, api.Chunk{}) {
				t.Errorf("Get of %d bytes of %q = %v, %d, %v", end, x.s, c, n, err)
			}
		}
	}
	// It comes ahead of what is wrong with the kind, the flags, the contents, or the padding as far as it is there.
	for _, s := range []string{"\x0D\x00\x00\x08", "\xFF\xFF\xFF\xFF", "\x08\xFF\x00\x05a", "\x07\x00\x00\x05a", "\x07\x00\x00\x05a\x01", "\x07\x00\x00\x05a\x00\x01", "\x04\x00\x00\x06ab\xFF", "\x00\x00\x00\x05"} {
		refuses(t, s, api.ErrShort)
	}
	refuses(t, "\x04\x00\xFF\xFF"+strings.Repeat("a", 65531), api.ErrShort)
	refuses(t, "\x04\x00\xFF\xFF"+strings.Repeat("a", 65530), api.ErrShort)
	refuses(t, "\x04\x00\xFF\xFC"+strings.Repeat("a", 65527), api.ErrShort)
}

// The longest chunk of all, with its padding, and with bytes behind it.
func TestGetLongest(t *testing.T) {
	body := rising(65531)
	takes(t, "\x04\x00\xFF\xFF"+string(body)+"\x00", api.Chunk{Kind: api.Beat, Body: body})
	takes(t, "\x05\x00\xFF\xFE"+string(body[:65530])+"\x00\x00", api.Chunk{Kind: api.BeatAck, Body: body[:65530]})
	takes(t, "\x0A\x00\xFF\xFC"+string(body[:65528]), api.Chunk{Kind: api.CookieEcho, Body: body[:65528]})
	refuses(t, "\x04\x00\xFF\xFF"+string(body)+"\x01", api.ErrForm)
}

// Each bit of each byte of the padding, whatever the kind: this comes ahead of a kind that is none.
func TestGetPadding(t *testing.T) {
	for k := range 256 {
		for n := 5; n < 13; n++ {
			whole := []byte(raw(api.ChunkKind(k), 0, string(rising(n-4))))
			for at := n; at < len(whole); at++ {
				for bit := range 8 {
					wrong := slices.Clone(whole)
					wrong[at] = 1 << bit
					refuses(t, string(wrong), api.ErrForm)
					refuses(t, string(wrong)+"\x08\x00\x00\x04", api.ErrForm)
				}
			}
		}
	}
	for _, x := range samples() {
		b := []byte(x.s)
		for at := int(numberAt(b, 2, 2)); at < len(b); at++ {
			wrong := slices.Clone(b)
			wrong[at] = 1
			refuses(t, string(wrong), api.ErrForm)
		}
	}
}

// Complete chunks of kinds that are none, whatever they have.
func TestGetUnknownKinds(t *testing.T) {
	for _, k := range others() {
		for _, contents := range []string{"", "a", "abc", "\x00\x00\x00\x00", string(rising(40))} {
			for _, flags := range []byte{0, 1, 255} {
				refuses(t, raw(k, flags, contents), api.ErrKind)
				refuses(t, raw(k, flags, contents)+"\x01", api.ErrKind)
			}
		}
	}
}

// All flags with all kinds.
func TestGetFlags(t *testing.T) {
	for _, x := range samples() {
		for bits := range 256 {
			b := []byte(x.s)
			b[1] = byte(bits)
			if byte(bits) > flagsOf(x.c.Kind) {
				refuses(t, string(b), api.ErrForm)
				continue
			}
			c, n, err := Get(b)
			got := fmt.Sprint(c.End, c.Begin, c.Loose, c.Bare)
			want := fmt.Sprint(bits&1 != 0, bits&2 != 0, bits&4 != 0, false)
			if x.c.Kind != api.Data && x.c.Kind != api.IData {
				want = fmt.Sprint(false, false, false, bits == 1)
			}
			if err != api.OK || n != len(b) || got != want {
				t.Errorf("kind %d with flags %d: Get = %s, %d, %v, want %s", x.c.Kind, bits, got, n, err, want)
			}
		}
	}
}

// What follows the length, in all lengths: zeros are valid just where the kind has so many.
func TestGetLengths(t *testing.T) {
	fits := func(k api.ChunkKind, n int) bool {
		switch k {
		case api.Data:
			return n > 12
		case api.IData:
			return n > 16
		case api.Init, api.InitAck:
			return n == 16 // zeros are no parameter
		case api.Sack:
			return n == 12 // of no gaps and no dups
		case api.Beat, api.BeatAck, api.CookieEcho:
			return true
		case api.Shutdown:
			return n == 4
		case api.Forward:
			return n >= 4 && n%4 == 0
		case api.IForward:
			return n >= 4 && n%8 == 4
		}
		return n == 0
	}
	for _, k := range kinds {
		for n := range 60 {
			s := raw(k, 0, strings.Repeat("\x00", n))
			if !fits(k, n) {
				refuses(t, s, api.ErrForm)
				continue
			}
			if c, size, err := Get([]byte(s)); err != api.OK || size != len(s) || c.Kind != k {
				t.Errorf("kind %d with %d bytes: Get = %v, %d, %v", k, n, c, size, err)
			}
		}
	}
}

// Fragments of nothing, whatever their flags.
func TestGetWithoutBody(t *testing.T) {
	for flags := range byte(8) {
		refuses(t, raw(api.Data, flags, string(rising(12))), api.ErrForm)
		refuses(t, raw(api.IData, flags, "\x00\x00\x00\x01\x00\x02\x00\x00\x00\x00\x00\x03\x00\x00\x00\x04"), api.ErrForm)
		refuses(t, raw(api.IData, flags, string(rising(6))+"\x00\x00"), api.ErrForm)
	}
}

// Each bit of the bytes that must be zero.
func TestGetZeros(t *testing.T) {
	data := []byte(raw(api.IData, 3, "\x00\x00\x00\x01\x00\x02\x00\x00\x00\x00\x00\x03\x00\x00\x00\x04a"))
	skip := []byte(raw(api.IForward, 0, "\x00\x00\x00\x01\x00\x02\x00\x00\x00\x00\x00\x03\x00\x02\x00\x01\x00\x00\x00\x03"))
	agrees(t, data)
	agrees(t, skip)
	for bit := range 8 {
		for _, at := range []int{10, 11} {
			wrong := slices.Clone(data)
			wrong[at] |= 1 << bit
			refuses(t, string(wrong), api.ErrForm)
		}
		for _, at := range []int{10, 11, 18, 19} {
			wrong := slices.Clone(skip)
			wrong[at] |= 1 << bit
			if bit == 0 && at%8 == 3 {
				agrees(t, wrong) // it is Loose
				continue
			}
			refuses(t, string(wrong), api.ErrForm)
		}
	}
	for v := range 256 {
		if v > 1 {
			refuses(t, raw(api.IForward, 0, "\x00\x00\x00\x01\x00\x02\x00"+string([]byte{byte(v)})+"\x00\x00\x00\x03"), api.ErrForm)
		}
	}
}

// The numbers of gaps and dups are just those that follow: all that are near, and those that are far too many.
func TestGetSackCounts(t *testing.T) {
	for have := range 6 {
		for gaps := range 8 {
			for dups := range 8 {
				s := raw(api.Sack, 0, "\x00\x00\x00\x01\x00\x00\x00\x02\x00"+string([]byte{byte(gaps)})+"\x00"+string([]byte{byte(dups)})+string(rising(4*have)))
				if gaps+dups != have {
					refuses(t, s, api.ErrForm)
					continue
				}
				agrees(t, []byte(s))
				if c, _, err := Get([]byte(s)); err != api.OK || len(c.Gaps) != gaps || len(c.Dups) != dups {
					t.Errorf("%d gaps and %d dups: Get = %v, %v", gaps, dups, c, err)
				}
			}
		}
	}
	for _, counts := range []string{"\xFF\xFF\xFF\xFF", "\xFF\xFF\x00\x01", "\x00\x01\xFF\xFF", "\x80\x00\x80\x00", "\x01\x00\x00\x00", "\x00\x00\x01\x00", "\x40\x00\xC0\x01"} {
		for _, rest := range []string{"", "abcd", string(rising(40))} {
			refuses(t, raw(api.Sack, 0, "\x00\x00\x00\x01\x00\x00\x00\x02"+counts+rest), api.ErrForm)
		}
	}
	for n := 1; n < 4; n++ {
		refuses(t, raw(api.Sack, 0, "\x00\x00\x00\x01\x00\x00\x00\x02\x00\x01\x00\x00abcd"+string(rising(n))), api.ErrForm)
	}
}

// Parameters that layer 5 refuses, by either of its errors, in each kind that has some.
func TestGetParams(t *testing.T) {
	right := "\x00\x08\x00\x06ab\x00\x00"
	for _, k := range []api.ChunkKind{api.Init, api.InitAck, api.Abort, api.Fault, api.Config} {
		before := ""
		if k == api.Init || k == api.InitAck {
			before = string(rising(16))
		}
		for _, wrong := range []string{
			"\x00", "\x00\x08\x00", "\x00\x08\x00\x03", "\x00\x00\x00\x00", "\x00\x08\x00\x06", "\x00\x08\x00\x06ab", "\x00\x08\x00\x06ab\x00",
			"\x00\x08\x00\x06ab\x01\x00", "\x00\x08\x00\x06ab\x00\x01", "\x00\x08\x00\x09abcd", "\x00\x08\xFF\xFFabcd",
		} {
			refuses(t, raw(k, 0, before+wrong), api.ErrForm)
			refuses(t, raw(k, 0, before+right+wrong), api.ErrForm)
		}
		agrees(t, []byte(raw(k, 0, before+right)))
		agrees(t, []byte(raw(k, 0, before+right+right)))
	}
}

// A length that leaves the padding of the last parameter to the chunk: this would be a second encoding.
func TestGetParamPaddingOutside(t *testing.T) {
	refuses(t, "\x06\x00\x00\x0A\x00\x08\x00\x06ab\x00\x00", api.ErrForm)
	refuses(t, "\x09\x00\x00\x0B\x00\x08\x00\x06ab\x00\x00", api.ErrForm)
	takes(t, "\x82\x00\x00\x0C\x00\x08\x00\x06ab\x00\x00", api.Chunk{Kind: api.Config, Params: []api.Param{{Kind: 8, Value: []byte("ab")}}})
}

// A list of chunks is read one by one.
func TestGetOneByOne(t *testing.T) {
	all := ""
	for _, x := range samples() {
		all += x.s
	}
	for _, x := range samples() {
		c, n, err := Get([]byte(all))
		if err != api.OK || n != len(x.s) || !same(c, x.c) {
			t.Fatalf("Get = %v, %d, %v, want %v", c, n, err, x.c)
		}
		all = all[n:]
	}
	if all != "" {
		t.Errorf("%q is left", all)
	}
}

// All short chunks, of bytes that matter.
func TestGetAll(t *testing.T) {
	var walk func(b []byte)
	walk = func(b []byte) {
		agrees(t, b)
		if len(b) == 10 {
			return
		}
		values := []byte{0, 1, 4}
		switch len(b) {
		case 0:
			values = []byte{0, 1, 3, 4, 6, 7, 8, 9, 10, 11, 13, 14, 64, 128, 130, 192, 194, 255}
		case 1:
			values = []byte{0, 1, 2, 8}
		case 2:
			values = []byte{0, 1}
		case 3:
			values = []byte{0, 3, 4, 5, 7, 8, 9, 12}
		}
		for _, x := range values {
			walk(append(b, x))
		}
	}
	walk(make([]byte, 0, 10))
}

// P6.3

func TestKnown(t *testing.T) {
	for k := range 256 {
		if got, want := Known(api.ChunkKind(k)), slices.Contains(kinds, api.ChunkKind(k)); got != want {
			t.Errorf("Known(%d) = %v", k, got)
		}
	}
	names := []api.ChunkKind{
		api.Data, api.Init, api.InitAck, api.Sack, api.Beat, api.BeatAck, api.Abort, api.Shutdown, api.ShutdownAck,
		api.Fault, api.CookieEcho, api.CookieAck, api.ShutdownDone, api.IData, api.Config, api.Forward, api.IForward,
	}
	for _, k := range names {
		if !Known(k) {
			t.Errorf("Known(%d) = false", k)
		}
	}
}

func TestGetReversesPut(t *testing.T) {
	for seed := range int64(500) {
		r := rand.New(rand.NewSource(seed))
		for _, k := range kinds {
			c := only(some(r, k))
			gives(t, c, encoded(c))
		}
	}
}

// Chunks with bytes changed, cut off, or appended: none is another encoding of what it was.
func TestOneEncoding(t *testing.T) {
	for seed := range int64(400) {
		r := rand.New(rand.NewSource(seed))
		for _, k := range kinds {
			c := only(some(r, k))
			whole := []byte(encoded(c))
			for range 20 {
				other := changed(r, whole)
				agrees(t, other)
				if got, n, err := Get(other); err == api.OK && same(got, c) && !bytes.Equal(other[:n], whole) {
					t.Fatalf("%x and %x are both %v", whole, other, c)
				}
			}
		}
	}
}

// changed bytes of a chunk, a few of them; often its head, and its length by little.
func changed(r *rand.Rand, whole []byte) []byte {
	other := append(slices.Clone(whole), make([]byte, r.Intn(2)*r.Intn(9))...)
	if r.Intn(3) == 0 {
		other = other[:r.Intn(len(other)+1)]
	}
	if len(other) > 3 && r.Intn(2) == 0 {
		other[3] += byte(r.Intn(17) - 8)
	}
	if len(other) > 0 && r.Intn(4) == 0 {
		other[0] = byte(kinds[r.Intn(len(kinds))])
	}
	for range r.Intn(3) {
		if len(other) > 0 {
			other[r.Intn(len(other))] ^= 1 << r.Intn(8)
		}
	}
	return other
}

// Bytes of which most are no chunk: all are answered.
func TestGetAnything(t *testing.T) {
	for seed := range int64(20000) {
		r := rand.New(rand.NewSource(seed))
		b := make([]byte, r.Intn(80))
		r.Read(b)
		if len(b) > 3 {
			b[0], b[2], b[3] = byte(kinds[r.Intn(len(kinds))]), 0, byte(r.Intn(len(b)+4))
		}
		agrees(t, b)
	}
}

// Arguments and results

// roomy are the bytes with spare capacity, in which other bytes stand.
func roomy(s string) []byte {
	b := append(make([]byte, 0, len(s)+40), s...)
	whole := b[:cap(b)]
	for i := len(s); i < len(whole); i++ {
		whole[i] = 0x77
	}
	return b
}

// untouched: are the bytes still as roomy made them?
func untouched(t *testing.T, name string, b []byte, s string) {
	t.Helper()
	if want := roomy(s); !bytes.Equal(b[:cap(b)], want[:cap(want)]) {
		t.Errorf("%s: the bytes became %x", name, b[:cap(b)])
	}
}

// fill all memory of a list, its spare capacity too.
func fill[T any](list []T, v T) {
	whole := list[:cap(list)]
	for i := range whole {
		whole[i] = v
	}
}

// lists of a chunk that hold bytes.
func lists(c api.Chunk) [][]byte {
	bs := [][]byte{c.Body}
	for _, p := range c.Params {
		bs = append(bs, p.Value)
	}
	return bs
}

// fillAll memory of a chunk.
func fillAll(c api.Chunk) {
	for _, b := range lists(c) {
		fill(b, 0xEE)
	}
	fill(c.Gaps, api.Gap{From: 0xEEEE, To: 0xEEEE})
	fill(c.Dups, 0xEEEEEEEE)
	fill(c.Skips, api.Skip{Stream: 0xEEEE, Loose: true, Mid: 0xEEEEEEEE})
	fill(c.Params, api.Param{Kind: 0xEEEE})
}

// deep copy of a chunk, with other things in its lists' spare capacity.
func deep(c api.Chunk) api.Chunk {
	c.Body = roomy(string(c.Body))
	c.Gaps = append(c.Gaps[:len(c.Gaps):len(c.Gaps)], api.Gap{From: 7, To: 7})[:len(c.Gaps)]
	c.Dups = append(c.Dups[:len(c.Dups):len(c.Dups)], 7)[:len(c.Dups)]
	c.Skips = append(c.Skips[:len(c.Skips):len(c.Skips)], api.Skip{Stream: 7, Mid: 7})[:len(c.Skips)]
	c.Params = append(c.Params[:len(c.Params):len(c.Params)], api.Param{Kind: 7, Value: []byte("not put")})[:len(c.Params)]
	for i, p := range c.Params {
		c.Params[i].Value = roomy(string(p.Value))
	}
	return c
}

// spare is all that stands in a chunk's lists, with their spare capacity.
func spare(c api.Chunk) string {
	s := fmt.Sprint(c.Gaps[:cap(c.Gaps)], c.Dups[:cap(c.Dups)], c.Skips[:cap(c.Skips)], c.Params[:cap(c.Params)])
	for _, b := range lists(c) {
		s += fmt.Sprint(b[:cap(b)])
	}
	return s
}

func TestPutIsNew(t *testing.T) {
	for _, x := range samples() {
		c := deep(x.c)
		before := spare(c)
		first, _ := Put(c)
		second, _ := Put(c)
		if spare(c) != before || !same(c, x.c) {
			t.Errorf("put: the chunk became %v", c)
		}
		fill(first, 0xEE)
		if spare(c) != before || !same(c, x.c) {
			t.Errorf("bytes written to: the chunk became %v", c)
		}
		fillAll(c)
		if string(second) != x.s {
			t.Errorf("the bytes became %x, want %x", second, x.s)
		}
	}
}

func TestGetIsNew(t *testing.T) {
	for _, x := range samples() {
		b := roomy(x.s)
		first, _, _ := Get(b)
		second, _, _ := Get(b)
		third, _, _ := Get(b)
		untouched(t, "got", b, x.s)
		// Written to one by one: neither the bytes nor the other lists have a part of it.
		for i, list := range lists(first) {
			fill(list, 0xEE)
			for k, other := range lists(first)[i+1:] {
				if !bytes.Equal(other, lists(x.c)[i+1+k]) {
					t.Errorf("kind %d: list %d became %q, with %d written to", x.c.Kind, i+1+k, other, i)
				}
			}
		}
		fillAll(first)
		untouched(t, "chunk written to", b, x.s)
		if !same(second, x.c) {
			t.Errorf("another result became %v, want %v", second, x.c)
		}
		fill(b, 0xEE)
		if !same(third, x.c) {
			t.Errorf("bytes written to: the chunk became %v, want %v", third, x.c)
		}
	}
}

// A chunk behind another one is not in its memory.
func TestGetTailIsKept(t *testing.T) {
	tail := "\x0A\x00\x00\x07abc\x00"
	for _, x := range samples() {
		b := []byte(x.s + tail)
		c, n, _ := Get(b)
		fillAll(c)
		if string(b[n:]) != tail {
			t.Errorf("kind %d: what follows became %q", x.c.Kind, b[n:])
		}
	}
}
