package packet

import (
	"bytes"
	"fmt"
	"hash/crc32"
	"math/rand"
	"slices"
	"strings"
	"testing"

	"flume/api"
	"flume/chunk"
)

// kinds of layer 6, and those of them that must be alone.
var (
	kinds = []api.ChunkKind{0, 1, 2, 3, 4, 5, 6, 7, 8, 9, 10, 11, 14, 64, 130, 192, 194}
	alone = []api.ChunkKind{1, 2, 14}
)

// Small chunks, and their bytes written by hand.
var (
	ack     = api.Chunk{Kind: api.CookieAck}
	cookied = "\x0B\x00\x00\x04"
	end     = api.Chunk{Kind: api.ShutdownDone}
	ended   = "\x0E\x00\x00\x04"
	first   = api.Chunk{Kind: api.Init, Tag: 0x21222324, Window: 0x31323334, Out: 0x4142, In: 0x5152, Tsn: 0x61626364}
	greeted = "\x01\x00\x00\x14\x21\x22\x23\x24\x31\x32\x33\x34\x41\x42\x51\x52\x61\x62\x63\x64"
	unknown = "\x80\x05\x00\x07abc\x00"
)

// beat of a chunk of n bytes.
func beat(n int) api.Chunk {
	return api.Chunk{Kind: api.Beat, Body: bytes.Repeat([]byte("b"), n-4)}
}

// beaten are the bytes of it.
func beaten(n int) string {
	return "\x04\x00" + string([]byte{byte(n / 256), byte(n % 256)}) + strings.Repeat("b", n-4)
}

// many times the same chunk.
func many(n int, c api.Chunk) []api.Chunk {
	return slices.Repeat([]api.Chunk{c}, n)
}

// of a kind, the smallest chunk.
func of(kind api.ChunkKind) api.Chunk {
	c := api.Chunk{Kind: kind}
	if kind == api.Data || kind == api.IData {
		c.Body = []byte("x")
	}
	return c
}

// seal a packet: the checksum of another implementation, over a copy with zeros, the least significant byte first.
func seal(s string) string {
	if len(s) < 12 {
		return s
	}
	b := []byte(s)
	copy(b[8:12], []byte{0, 0, 0, 0})
	sum := crc32.Checksum(b, crc32.MakeTable(crc32.Castagnoli))
	copy(b[8:12], []byte{byte(sum), byte(sum >> 8), byte(sum >> 16), byte(sum >> 24)})
	return string(b)
}

// raw is a packet with some header, the sum that it must have, and these bytes behind it.
func raw(contents string) string {
	return seal("\x13\x88\x13\x89\x01\x02\x03\x04...." + contents)
}

// holding the chunks, with raw's header.
func holding(cs ...api.Chunk) api.Packet {
	return api.Packet{From: 5000, To: 5001, Tag: 0x01020304, Chunks: cs}
}

// same: do all fields have the same values? Whether a list without items is nil doesn't matter.
func same(a, b any) bool {
	return fmt.Sprint(a) == fmt.Sprint(b)
}

func puts(t *testing.T, p api.Packet, want string) {
	t.Helper()
	if b, err := Put(p); err != api.OK || string(b) != want {
		t.Errorf("Put(%.200v) = %.200q, %v, want %.200q", p, b, err, want)
	}
}

func takes(t *testing.T, s string, want api.Packet) {
	t.Helper()
	if p, err := Get([]byte(s)); err != api.OK || !same(p, want) {
		t.Errorf("Get(%.200q) = %.200v, %v, want %.200v", s, p, err, want)
	}
}

// gives: do the packet and the bytes lead to each other?
func gives(t *testing.T, p api.Packet, s string) {
	t.Helper()
	puts(t, p, s)
	takes(t, s, p)
}

// refusesPut: does Put return none, and this error, whatever the header is?
func refusesPut(t *testing.T, want api.Errno, cs ...api.Chunk) {
	t.Helper()
	for _, p := range []api.Packet{{Chunks: cs}, {From: 1, To: 65535, Tag: 1 << 31, Chunks: cs}} {
		if b, err := Put(p); err != want || len(b) > 0 {
			t.Errorf("Put of %d chunks, %.200v = %d bytes, %v, want none, %v", len(cs), cs, len(b), err, want)
		}
	}
}

// refuses: does Get return the zero packet, and this error?
func refuses(t *testing.T, s string, want api.Errno) {
	t.Helper()
	if p, err := Get([]byte(s)); err != want || !same(p, api.Packet{}) {
		t.Errorf("Get of %d bytes, %.200q = %.200v, %v, want %v", len(s), s, p, err, want)
	}
}

// The chapter's examples

func TestExamples(t *testing.T) {
	p := api.Packet{From: 5000, To: 5000, Tag: 9, Chunks: []api.Chunk{{Kind: api.ShutdownAck}}}
	gives(t, p, seal("\x13\x88\x13\x88\x00\x00\x00\x09....\x08\x00\x00\x04"))
	b, err := Put(p)
	if err != api.OK || len(b) != 16 {
		t.Fatalf("Put = %x, %v", b, err)
	}
	for bit := range 8 * len(b) {
		wrong := slices.Clone(b)
		wrong[bit/8] ^= 1 << (bit % 8)
		refuses(t, string(wrong), api.ErrSum)
	}
}

// Alone

func TestAlone(t *testing.T) {
	for k := range 256 {
		kind := api.ChunkKind(k)
		if got, want := Alone(kind), slices.Contains(alone, kind); got != want {
			t.Errorf("Alone(%d) = %v", kind, got)
		}
	}
}

// P7.1

func TestPutHeader(t *testing.T) {
	p := api.Packet{From: 0x1112, To: 0x2122, Tag: 0x31323334, Chunks: []api.Chunk{ack}}
	gives(t, p, seal("\x11\x12\x21\x22\x31\x32\x33\x34....\x0B\x00\x00\x04"))
	gives(t, api.Packet{Chunks: []api.Chunk{ack}}, seal("\x00\x00\x00\x00\x00\x00\x00\x00....\x0B\x00\x00\x04"))
	p = api.Packet{From: 65535, To: 65535, Tag: 1<<32 - 1, Chunks: []api.Chunk{ack}}
	gives(t, p, seal("\xFF\xFF\xFF\xFF\xFF\xFF\xFF\xFF....\x0B\x00\x00\x04"))
}

// Whole packets, with their checksums as numbers.
func TestPutSum(t *testing.T) {
	gives(t, api.Packet{From: 5000, To: 5000, Tag: 9, Chunks: []api.Chunk{{Kind: api.ShutdownAck}}},
		"\x13\x88\x13\x88\x00\x00\x00\x09\x66\x82\x99\x17\x08\x00\x00\x04")
	gives(t, api.Packet{Chunks: []api.Chunk{ack}}, "\x00\x00\x00\x00\x00\x00\x00\x00\x2A\xE7\x8C\x11\x0B\x00\x00\x04")
	// What is skipped is under the sum too.
	takes(t, "\x13\x88\x13\x89\x01\x02\x03\x04\x85\x34\xC5\x4E"+unknown+cookied, holding(ack))
}

func TestPutChunks(t *testing.T) {
	data := api.Chunk{Kind: api.Data, Begin: true, End: true, Tsn: 1, Stream: 2, Mid: 3, Ppid: 51, Body: []byte("a")}
	sack := api.Chunk{Kind: api.Sack, Tsn: 7, Window: 8, Gaps: []api.Gap{{From: 2, To: 3}}, Dups: []uint32{9}}
	bytesOfData := "\x00\x03\x00\x11\x00\x00\x00\x01\x00\x02\x00\x03\x00\x00\x00\x33a\x00\x00\x00"
	bytesOfSack := "\x03\x00\x00\x18\x00\x00\x00\x07\x00\x00\x00\x08\x00\x01\x00\x01\x00\x02\x00\x03\x00\x00\x00\x09"
	gives(t, holding(data), raw(bytesOfData))
	gives(t, holding(sack, data), raw(bytesOfSack+bytesOfData))
	gives(t, holding(data, sack), raw(bytesOfData+bytesOfSack))
	gives(t, holding(data, ack, data, sack, ack), raw(bytesOfData+cookied+bytesOfData+bytesOfSack+cookied))
	gives(t, holding(first), raw(greeted))
	gives(t, holding(end), raw(ended))
}

// Each kind by itself, and each two of them.
func TestPutKinds(t *testing.T) {
	for _, a := range kinds {
		one, _ := chunk.Put(of(a))
		gives(t, holding(of(a)), raw(string(one)))
		for _, b := range kinds {
			two, _ := chunk.Put(of(b))
			if slices.Contains(alone, a) || slices.Contains(alone, b) {
				refusesPut(t, api.ErrForm, of(a), of(b))
				refuses(t, raw(string(one)+string(two)), api.ErrForm)
				continue
			}
			gives(t, holding(of(a), of(b)), raw(string(one)+string(two)))
		}
	}
}

func TestPutCounts(t *testing.T) {
	refusesPut(t, api.ErrForm)
	refusesPut(t, api.ErrForm, []api.Chunk{}...)
	for _, n := range []int{1, 2, 63, 64} {
		gives(t, holding(many(n, ack)...), raw(strings.Repeat(cookied, n)))
	}
	for _, n := range []int{65, 66, 128, 297, 298, 1000} {
		refusesPut(t, api.ErrForm, many(n, ack)...)
	}
}

// A chunk that must be alone, at each place among others.
func TestPutAlone(t *testing.T) {
	for _, kind := range alone {
		for _, n := range []int{2, 3, 10, 63, 64} {
			for at := range n {
				cs := many(n, ack)
				cs[at] = of(kind)
				refusesPut(t, api.ErrForm, cs...)
			}
		}
		refusesPut(t, api.ErrForm, many(2, of(kind))...)
	}
}

// 1200 bytes are a packet, in one chunk or in more of them; one unit more is none.
func TestPutLong(t *testing.T) {
	gives(t, holding(beat(1188)), raw(beaten(1188)))
	gives(t, holding(beat(1184), ack), raw(beaten(1184)+cookied))
	gives(t, holding(ack, beat(1184)), raw(cookied+beaten(1184)))
	gives(t, holding(many(6, beat(196))...), raw(strings.Repeat(beaten(196), 6)))
	gives(t, holding(append(many(63, ack), beat(936))...), raw(strings.Repeat(cookied, 63)+beaten(936)))
	for _, cs := range [][]api.Chunk{
		{beat(1192)}, {beat(1188), ack}, {ack, beat(1188)}, many(6, beat(200)), append(many(63, ack), beat(940)),
		{beat(2000)}, {beat(65532)}, many(64, beat(65532)),
	} {
		refusesPut(t, api.ErrLong, cs...)
	}
}

// The padding of a chunk counts, at the packet's end too.
func TestPutPadding(t *testing.T) {
	for n := 1181; n <= 1184; n++ {
		p := holding(api.Chunk{Kind: api.Beat, Body: make([]byte, n)})
		if b, err := Put(p); err != api.OK || len(b) != (16+n+3)/4*4 {
			t.Errorf("Put of %d bytes = %d bytes, %v", n, len(b), err)
		}
	}
	for n := 1185; n <= 1188; n++ {
		refusesPut(t, api.ErrLong, api.Chunk{Kind: api.Beat, Body: make([]byte, n)})
	}
}

// Kinds that layer 6 does not have, also those that Get skips.
func TestPutUnknown(t *testing.T) {
	for k := range 256 {
		kind := api.ChunkKind(k)
		if slices.Contains(kinds, kind) {
			continue
		}
		refusesPut(t, api.ErrKind, of(kind))
		refusesPut(t, api.ErrKind, ack, of(kind), ack)
	}
}

// Of several errors, the first: the form of the packet, then the first chunk that has one, then the length.
func TestPutFirstError(t *testing.T) {
	kind, form := api.Chunk{Kind: 13}, api.Chunk{Kind: api.Data}
	long, longer := beat(1192), api.Chunk{Kind: api.Beat, Body: make([]byte, 65532)}
	for _, wrong := range []api.Chunk{kind, longer} {
		refusesPut(t, api.ErrForm, wrong, end)
		refusesPut(t, api.ErrForm, end, wrong)
		refusesPut(t, api.ErrForm, wrong, end, ack)
		refusesPut(t, api.ErrForm, many(65, wrong)...)
		refusesPut(t, api.ErrForm, append(many(64, ack), wrong)...)
	}
	refusesPut(t, api.ErrForm, append(many(64, long), long)...)
	refusesPut(t, api.ErrForm, long, first)
	refusesPut(t, api.ErrKind, kind, form)
	refusesPut(t, api.ErrForm, form, kind)
	refusesPut(t, api.ErrKind, ack, kind, form, longer)
	refusesPut(t, api.ErrLong, longer, kind)
	refusesPut(t, api.ErrLong, longer, form)
	refusesPut(t, api.ErrKind, kind, longer)
	refusesPut(t, api.ErrKind, long, kind)
	refusesPut(t, api.ErrKind, long, long, kind)
	refusesPut(t, api.ErrForm, long, form, kind)
}

// P7.2

func TestGetShort(t *testing.T) {
	whole := raw(cookied)
	for n := range 12 {
		refuses(t, whole[:n], api.ErrShort)
		refuses(t, strings.Repeat("\x00", n), api.ErrShort)
	}
	if p, err := Get(nil); err != api.ErrShort || !same(p, api.Packet{}) {
		t.Errorf("Get of none = %v, %v", p, err)
	}
	// What stands in the spare capacity is not of the packet.
	if p, err := Get([]byte(whole)[:11]); err != api.ErrShort || !same(p, api.Packet{}) {
		t.Errorf("Get of eleven bytes = %v, %v", p, err)
	}
}

// Longer than a packet, whether it is sealed or not, and whatever it contains.
func TestGetLong(t *testing.T) {
	takes(t, raw(beaten(1188)), holding(beat(1188)))
	refuses(t, raw(beaten(1192)), api.ErrLong)
	refuses(t, raw(beaten(1188)+"\x00"), api.ErrLong)
	refuses(t, raw(beaten(1188)+cookied), api.ErrLong)
	refuses(t, raw(beaten(1188)+unknown), api.ErrLong)
	for _, n := range []int{1201, 1204, 5000, 65536, 1 << 20} {
		refuses(t, strings.Repeat("\x00", n), api.ErrLong)
	}
	refuses(t, strings.Repeat("\x00", 1200), api.ErrSum)
}

// Each bit of a packet, and all of its sum in the other order.
func TestGetSum(t *testing.T) {
	whole := raw(greeted)
	for bit := range 8 * len(whole) {
		wrong := []byte(whole)
		wrong[bit/8] ^= 1 << (bit % 8)
		refuses(t, string(wrong), api.ErrSum)
	}
	turned := []byte(whole)
	slices.Reverse(turned[8:12])
	refuses(t, string(turned), api.ErrSum)
	// The sum of the packet with its own sum in it, and with the place left out.
	table := crc32.MakeTable(crc32.Castagnoli)
	for _, sum := range []uint32{crc32.Checksum([]byte(whole), table), crc32.Checksum([]byte(whole[:8]+whole[12:]), table), 0} {
		wrong := []byte(whole)
		copy(wrong[8:], []byte{byte(sum), byte(sum >> 8), byte(sum >> 16), byte(sum >> 24)})
		refuses(t, string(wrong), api.ErrSum)
	}
	for n := 12; n < len(whole); n++ {
		refuses(t, whole[:n], api.ErrSum)
	}
}

// The sum is asked first, whatever is behind it.
func TestGetSumFirst(t *testing.T) {
	for _, contents := range []string{"", "\x00", "\x0D\x00\x00\x04", "\x0B\x00\x00\x03", ended + ended, unknown} {
		wrong := []byte(raw(contents))
		wrong[8] ^= 1
		refuses(t, string(wrong), api.ErrSum)
	}
}

// Chunks with each error of layer 6, by themselves, behind others, and ahead of others.
var faults = []struct {
	s    string
	want api.Errno
}{
	{"\x0B", api.ErrShort}, {"\x0B\x00", api.ErrShort}, {"\x0B\x00\x00", api.ErrShort}, // no whole head
	{"\x00", api.ErrShort}, {"\x00\x00\x00", api.ErrShort}, {"\x80\x00\x00", api.ErrShort},
	{"\x0B\x00\x00\x00", api.ErrForm}, {"\x0B\x00\x00\x03", api.ErrForm}, {"\x80\x00\x00\x03", api.ErrForm}, // a length below four
	{"\x0D\x00\x00\x03", api.ErrForm}, {"\xFF\x00\x00\x00", api.ErrForm},
	{"\x04\x00\x00\x09thump", api.ErrShort}, {"\x04\x00\x00\x09thump\x00\x00", api.ErrShort}, // not all of it
	{"\x04\x00\xFF\xFFthump\x00\x00\x00", api.ErrShort}, {"\x0D\x00\xFF\xFF", api.ErrShort},
	{"\x80\x00\x00\x09thump\x00\x00", api.ErrShort}, {"\x80\x00\xFF\xFF", api.ErrShort}, {"\xFF\x00\x00\x08abc", api.ErrShort},
	{"\x04\x00\x00\x09thump\x01\x00\x00", api.ErrForm}, {"\x04\x00\x00\x09thump\x00\x00\x80", api.ErrForm}, // its padding
	{"\x80\x00\x00\x09thump\x01\x00\x00", api.ErrForm}, {"\xFF\x00\x00\x09thump\x00\x00\x80", api.ErrForm},
	{"\x0D\x00\x00\x05a\x00\x01\x00", api.ErrForm},
	{"\x0D\x00\x00\x04", api.ErrKind}, {"\x0C\x00\x00\x05a\x00\x00\x00", api.ErrKind}, {"\x7F\x00\x00\x04", api.ErrKind}, // no such kind
	{"\x0B\x01\x00\x04", api.ErrForm}, {"\x0B\x00\x00\x08abcd", api.ErrForm}, {"\x07\x00\x00\x04", api.ErrForm}, // not what the kind has
	{"\x82\x01\x00\x04", api.ErrForm}, {"\x82\x00\x00\x06ab\x00\x00", api.ErrForm}, // kinds from 128 on that are known aren't skipped
	{"\xC0\x00\x00\x04", api.ErrForm}, {"\xC2\x00\x00\x0Cabcdefgh", api.ErrForm},
}

func TestGetFaults(t *testing.T) {
	for _, x := range faults {
		for _, before := range []string{"", cookied, unknown, cookied + unknown, ended, ended + ended, strings.Repeat(cookied, 64), strings.Repeat(cookied, 65)} {
			refuses(t, raw(before+x.s), x.want)
		}
	}
}

// The first chunk that has an error, and only then the form of the packet.
func TestGetFirstError(t *testing.T) {
	for _, x := range faults {
		if x.want == api.ErrShort {
			continue // it may be whole with what follows
		}
		for _, y := range faults {
			refuses(t, raw(x.s+y.s), x.want)
			refuses(t, raw(cookied+x.s+ended+y.s), x.want)
		}
	}
}

// Every kind that isn't known: from 128 on it is skipped, at each place.
func TestGetUnknown(t *testing.T) {
	for k := range 256 {
		if slices.Contains(kinds, api.ChunkKind(k)) {
			continue
		}
		for _, rest := range []string{"\x00\x00\x04", "\xFF\x00\x04", "\x00\x00\x05a\x00\x00\x00", "\x01\x00\x06ab\x00\x00", "\x03\x00\x07abc\x00", "\x00\x00\x08abcd", "\x00\x00\x08\x0B\x00\x00\x03"} {
			other := string([]byte{byte(k)}) + rest
			if k < 128 {
				refuses(t, raw(other), api.ErrKind)
				refuses(t, raw(cookied+other+cookied), api.ErrKind)
				continue
			}
			refuses(t, raw(other), api.ErrForm)
			takes(t, raw(other+cookied), holding(ack))
			takes(t, raw(cookied+other), holding(ack))
			takes(t, raw(cookied+other+other+cookied+other), holding(ack, ack))
		}
	}
}

// Lengths of what is skipped, up to all that a packet has beside one chunk.
func TestGetSkippedLengths(t *testing.T) {
	for n := 4; n <= 1184; n++ {
		other := []byte("\xFE\x00" + string([]byte{byte(n / 256), byte(n % 256)}) + strings.Repeat("s", n-4))
		for len(other)%4 != 0 {
			other = append(other, 0)
		}
		takes(t, raw(string(other)+cookied), holding(ack))
		takes(t, raw(cookied+string(other)), holding(ack))
		for at := n; at < len(other); at++ {
			wrong := slices.Clone(other)
			wrong[at] = 1
			refuses(t, raw(cookied+string(wrong)), api.ErrForm)
		}
		refuses(t, raw(cookied+string(other[:len(other)-1])), api.ErrShort)
	}
}

// What is skipped does not count: not as a chunk, not among 64, not beside one that must be alone.
func TestGetSkippedCounts(t *testing.T) {
	refuses(t, raw(""), api.ErrForm)
	refuses(t, raw(unknown), api.ErrForm)
	refuses(t, raw(strings.Repeat("\xFF\x00\x00\x04", 297)), api.ErrForm)
	takes(t, raw(strings.Repeat("\xFF\x00\x00\x04", 296)+cookied), holding(ack))
	takes(t, raw(strings.Repeat(cookied+unknown, 64)), holding(many(64, ack)...))
	refuses(t, raw(strings.Repeat(cookied+unknown, 65)), api.ErrForm)
	takes(t, raw(unknown+greeted), holding(first))
	takes(t, raw(greeted+unknown), holding(first))
	takes(t, raw(unknown+ended+unknown+unknown), holding(end))
	refuses(t, raw(greeted+unknown+ended), api.ErrForm)
	refuses(t, raw(cookied+unknown+greeted), api.ErrForm)
}

func TestGetCounts(t *testing.T) {
	for n := 1; n <= 297; n++ {
		s := raw(strings.Repeat(cookied, n))
		if n > 64 {
			refuses(t, s, api.ErrForm)
			continue
		}
		takes(t, s, holding(many(n, ack)...))
	}
}

// A chunk that must be alone, at each place among others.
func TestGetAlone(t *testing.T) {
	for _, s := range []string{greeted, "\x02" + greeted[1:], ended} {
		for n := range 20 {
			for at := range n + 1 {
				packet := raw(strings.Repeat(cookied, at) + s + strings.Repeat(cookied, n-at))
				if n > 0 {
					refuses(t, packet, api.ErrForm)
				} else if p, err := Get([]byte(packet)); err != api.OK || len(p.Chunks) != 1 || p.Chunks[0].Kind != api.ChunkKind(s[0]) {
					t.Errorf("Get(%q) = %v, %v", packet, p, err)
				}
			}
		}
	}
}

// decoded is what the chapter tells of bytes, by offsets; of the chunks it asks layer 6.
func decoded(b []byte) (api.Packet, api.Errno) {
	switch {
	case len(b) < 12:
		return api.Packet{}, api.ErrShort
	case len(b) > 1200:
		return api.Packet{}, api.ErrLong
	case seal(string(b)) != string(b):
		return api.Packet{}, api.ErrSum
	}
	p := api.Packet{
		From: uint16(b[0])*256 + uint16(b[1]),
		To:   uint16(b[2])*256 + uint16(b[3]),
		Tag:  uint32(b[4])<<24 + uint32(b[5])<<16 + uint32(b[6])<<8 + uint32(b[7]),
	}
	lonely := 0
	for at := 12; at < len(b); {
		c, n, err := chunk.Get(b[at:])
		if err == api.ErrKind && b[at] > 127 {
			at += (int(b[at+2])*256 + int(b[at+3]) + 3) / 4 * 4
			continue
		}
		if err != api.OK {
			return api.Packet{}, err
		}
		if slices.Contains(alone, c.Kind) {
			lonely++
		}
		p.Chunks = append(p.Chunks, c)
		at += n
	}
	if n := len(p.Chunks); n < 1 || n > 64 || lonely > 0 && n > 1 {
		return api.Packet{}, api.ErrForm
	}
	return p, api.OK
}

// agrees: does Get return what the chapter tells?
func agrees(t *testing.T, b []byte) {
	t.Helper()
	p, err := Get(b)
	if want, wantErr := decoded(b); err != wantErr || !same(p, want) {
		t.Fatalf("Get(%x) = %.300v, %v, want %.300v, %v", b, p, err, want, wantErr)
	}
}

// some chunk that is valid, with nothing that its kind does not have.
func some(r *rand.Rand) api.Chunk {
	b := make([]byte, r.Intn(1+r.Intn(1+r.Intn(400))))
	r.Read(b)
	params := []api.Param{{Kind: uint16(r.Intn(65536)), Value: b}, {Kind: 7}}[:r.Intn(3)]
	c := api.Chunk{Kind: kinds[r.Intn(len(kinds))], Tsn: r.Uint32()}
	switch c.Kind {
	case api.Data, api.IData:
		c.Begin, c.End, c.Loose = r.Intn(2) == 0, r.Intn(2) == 0, r.Intn(2) == 0
		c.Stream, c.Mid, c.Body = uint16(r.Intn(65536)), uint32(r.Intn(65536)), append(b, 1)
		if c.Begin || c.Kind == api.Data {
			c.Ppid = r.Uint32()
		} else {
			c.Frag = r.Uint32()
		}
	case api.Init, api.InitAck:
		c.Tag, c.Window, c.Out, c.In, c.Params = r.Uint32(), r.Uint32(), uint16(r.Intn(65536)), uint16(r.Intn(65536)), params
	case api.Sack:
		c.Window, c.Gaps, c.Dups = r.Uint32(), make([]api.Gap, r.Intn(33)), make([]uint32, r.Intn(17))
		for i := range c.Gaps {
			c.Gaps[i] = api.Gap{From: uint16(r.Intn(65536)), To: uint16(r.Intn(65536))}
		}
	case api.Forward, api.IForward:
		for range r.Intn(5) {
			c.Skips = append(c.Skips, api.Skip{Stream: uint16(r.Intn(65536)), Loose: c.Kind == api.IForward && r.Intn(2) == 0, Mid: uint32(r.Intn(65536))})
		}
	case api.Shutdown:
	case api.Beat, api.BeatAck, api.CookieEcho:
		c.Tsn, c.Body = 0, b
	case api.Abort, api.Fault, api.Config:
		c.Tsn, c.Bare, c.Params = 0, c.Kind == api.Abort && r.Intn(2) == 0, params
	default:
		c.Tsn, c.Bare = 0, c.Kind == api.ShutdownDone && r.Intn(2) == 0
	}
	return c
}

// somePacket of such chunks, that can be put.
func somePacket(r *rand.Rand) api.Packet {
	p := api.Packet{From: uint16(r.Intn(65536)), To: uint16(r.Intn(65536)), Tag: r.Uint32()}
	size := 12
	for range 1 + r.Intn(8) {
		c := some(r)
		b, _ := chunk.Put(c)
		if size += len(b); size > 1200 || len(p.Chunks) > 0 && slices.Contains(alone, c.Kind) {
			break
		}
		p.Chunks = append(p.Chunks, c)
		if slices.Contains(alone, c.Kind) {
			break
		}
	}
	return p
}

func TestGetReversesPut(t *testing.T) {
	for seed := range int64(3000) {
		p := somePacket(rand.New(rand.NewSource(seed)))
		var s string
		for _, c := range p.Chunks {
			b, _ := chunk.Put(c)
			s += string(b)
		}
		header := []byte{byte(p.From >> 8), byte(p.From), byte(p.To >> 8), byte(p.To), byte(p.Tag >> 24), byte(p.Tag >> 16), byte(p.Tag >> 8), byte(p.Tag)}
		gives(t, p, seal(string(header)+"...."+s))
	}
}

// What a kind does not have is not put, so that it is not read back either.
func TestGetWithoutIgnored(t *testing.T) {
	c := ack
	c.Tsn, c.Body, c.Begin, c.Gaps = 7, make([]byte, 5000), true, make([]api.Gap, 70000)
	puts(t, holding(c, ack), raw(cookied+cookied))
	takes(t, raw(cookied+cookied), holding(ack, ack))
}

// Packets changed, cut off and lengthened, sealed anew or not.
func TestGetChanged(t *testing.T) {
	for seed := range int64(3000) {
		r := rand.New(rand.NewSource(seed))
		whole, err := Put(somePacket(r))
		if err != api.OK {
			t.Fatalf("run %d: %v", seed, err)
		}
		for range 10 {
			b := append(slices.Clone(whole), make([]byte, r.Intn(2)*r.Intn(9))...)
			b = b[:len(b)-r.Intn(2)*r.Intn(len(b)+1)]
			for range r.Intn(3) {
				if len(b) > 0 {
					// Near the beginning there are heads of chunks.
					b[r.Intn(1+r.Intn(len(b)))] ^= 1 << r.Intn(8)
				}
			}
			agrees(t, b)
			agrees(t, []byte(seal(string(b))))
		}
	}
}

// P7.3

// bundles: are these the groups, by the number of their chunks, and the chunks in order?
func bundles(t *testing.T, cs []api.Chunk, want ...int) {
	t.Helper()
	groups, err := Bundle(cs...)
	var counts []int
	for _, g := range groups {
		counts = append(counts, len(g))
	}
	if err != api.OK || !slices.Equal(counts, want) || !same(slices.Concat(groups...), cs) {
		t.Errorf("Bundle(%.300v) = groups of %v, %v, want %v", cs, counts, err, want)
	}
}

// refusesBundle: does it return none, and this error?
func refusesBundle(t *testing.T, want api.Errno, cs ...api.Chunk) {
	t.Helper()
	if groups, err := Bundle(cs...); err != want || len(groups) > 0 {
		t.Errorf("Bundle of %d chunks, %.200v = %d groups, %v, want none, %v", len(cs), cs, len(groups), err, want)
	}
}

func TestBundleNone(t *testing.T) {
	bundles(t, nil)
	bundles(t, []api.Chunk{})
}

func TestBundleOne(t *testing.T) {
	for _, kind := range kinds {
		bundles(t, []api.Chunk{of(kind)}, 1)
	}
	bundles(t, []api.Chunk{beat(1188)}, 1)
}

// A group ends where the next chunk would make the packet longer than 1200 bytes, and no earlier.
func TestBundleSizes(t *testing.T) {
	bundles(t, []api.Chunk{beat(1184), ack}, 2)
	bundles(t, []api.Chunk{ack, beat(1184)}, 2)
	bundles(t, []api.Chunk{beat(1188), ack}, 1, 1)
	bundles(t, []api.Chunk{ack, beat(1188)}, 1, 1)
	bundles(t, []api.Chunk{ack, beat(1184), ack}, 2, 1)
	bundles(t, []api.Chunk{beat(1188), beat(1188), beat(1188)}, 1, 1, 1)
	bundles(t, many(12, beat(196)), 6, 6)
	bundles(t, many(12, beat(200)), 5, 5, 2)
	bundles(t, []api.Chunk{beat(600), beat(588), beat(600), beat(592), ack, ack}, 2, 1, 3)
	// A small chunk doesn't go back to an earlier group.
	bundles(t, []api.Chunk{beat(600), beat(1188), ack}, 1, 1, 1)
}

// The padding of chunks counts.
func TestBundlePadding(t *testing.T) {
	for n := 1177; n <= 1188; n++ {
		c := api.Chunk{Kind: api.Beat, Body: make([]byte, n)}
		switch {
		case n <= 1180:
			bundles(t, []api.Chunk{c, ack, ack}, 2, 1)
			bundles(t, []api.Chunk{ack, c, ack}, 2, 1)
		case n <= 1184:
			bundles(t, []api.Chunk{c, ack, ack}, 1, 2)
			bundles(t, []api.Chunk{ack, c, ack}, 1, 1, 1)
		default:
			refusesBundle(t, api.ErrLong, ack, c)
		}
	}
}

func TestBundleCounts(t *testing.T) {
	bundles(t, many(63, ack), 63)
	bundles(t, many(64, ack), 64)
	bundles(t, many(65, ack), 64, 1)
	bundles(t, many(129, ack), 64, 64, 1)
	bundles(t, append(many(64, ack), beat(1188), ack), 64, 1, 1)
}

func TestBundleAlone(t *testing.T) {
	for _, kind := range alone {
		c := of(kind)
		bundles(t, []api.Chunk{c, ack, ack}, 1, 2)
		bundles(t, []api.Chunk{ack, ack, c}, 2, 1)
		bundles(t, []api.Chunk{ack, c, ack, ack}, 1, 1, 2)
		for _, other := range alone {
			bundles(t, []api.Chunk{c, of(other)}, 1, 1)
			bundles(t, []api.Chunk{ack, c, of(other), c, ack}, 1, 1, 1, 1, 1)
		}
		bundles(t, append(many(64, ack), c, ack), 64, 1, 1)
	}
}

// The first chunk that has an error tells it, whatever is ahead of it and behind it.
func TestBundleErrors(t *testing.T) {
	wrong := []struct {
		c    api.Chunk
		want api.Errno
	}{
		{api.Chunk{Kind: 13, Body: []byte("a")}, api.ErrKind},
		{api.Chunk{Kind: 128}, api.ErrKind},
		{api.Chunk{Kind: 255, Body: make([]byte, 70000)}, api.ErrKind},
		{api.Chunk{Kind: api.Data}, api.ErrForm},
		{api.Chunk{Kind: api.IData}, api.ErrForm},
		{beat(1192), api.ErrLong},
		{api.Chunk{Kind: api.Beat, Body: make([]byte, 1185)}, api.ErrLong},
		{api.Chunk{Kind: api.Beat, Body: make([]byte, 65532)}, api.ErrLong},
		{api.Chunk{Kind: api.Init, Params: []api.Param{{Value: make([]byte, 1165)}}}, api.ErrLong},
		{api.Chunk{Kind: api.Fault, Params: []api.Param{{Value: make([]byte, 70000)}}}, api.ErrLong},
		{api.Chunk{Kind: api.Sack, Gaps: make([]api.Gap, 294)}, api.ErrLong},
		{api.Chunk{Kind: api.Sack, Dups: make([]uint32, 65536)}, api.ErrLong},
	}
	for _, x := range wrong {
		refusesBundle(t, x.want, x.c)
		refusesBundle(t, x.want, append(many(200, ack), x.c)...)
		refusesBundle(t, x.want, end, x.c, end)
		for _, y := range wrong {
			refusesBundle(t, x.want, ack, x.c, ack, y.c)
		}
	}
	bundles(t, []api.Chunk{{Kind: api.Sack, Gaps: make([]api.Gap, 293)}, ack}, 1, 1)
	bundles(t, []api.Chunk{{Kind: api.Init, Params: []api.Param{{Value: make([]byte, 1164)}}}, ack}, 1, 1)
}

// Each group can be put; with one more chunk, it could not. And what was put is read back.
func TestBundleSome(t *testing.T) {
	for seed := range int64(60) {
		r := rand.New(rand.NewSource(seed))
		var cs []api.Chunk
		for range r.Intn(100) {
			c := some(r)
			if r.Intn(2) == 0 {
				c = ack
			}
			cs = append(cs, slices.Repeat([]api.Chunk{c}, 1+r.Intn(2)*r.Intn(90))...)
		}
		groups, err := Bundle(cs...)
		if err != api.OK || !same(slices.Concat(groups...), cs) {
			t.Fatalf("run %d: Bundle = %d groups of other chunks, %v", seed, len(groups), err)
		}
		for i, g := range groups {
			b, err := Put(holding(g...))
			if err != api.OK {
				t.Fatalf("run %d: Put of group %d: %v", seed, i, err)
			}
			if p, err := Get(b); err != api.OK || !same(p.Chunks, g) {
				t.Fatalf("run %d: Get of group %d = %.300v, %v", seed, i, p, err)
			}
			if i+1 < len(groups) {
				if _, err := Put(holding(append(slices.Clone(g), groups[i+1][0])...)); err == api.OK {
					t.Fatalf("run %d: group %d has room for one more", seed, i)
				}
			}
		}
	}
}

// The chunks come back as they are, also with what their kinds do not have, which doesn't count.
func TestBundleIgnored(t *testing.T) {
	c := ack
	c.Tsn, c.Tag, c.Loose, c.Body, c.Skips = 7, 8, true, make([]byte, 5000), make([]api.Skip, 3)
	bundles(t, many(65, c), 64, 1)
}

// Arguments and results

// full is a chunk with all lists, each of them with spare capacity in which something stands.
func full(kind api.ChunkKind) api.Chunk {
	params := []api.Param{{Kind: 1, Value: []byte("one, and more")[:3]}, {Kind: 2, Value: []byte("two, and more")[:3]}, {Kind: 3, Value: []byte("three")}}
	return api.Chunk{
		Kind: kind, Begin: true, End: true, Tsn: 1, Stream: 2, Mid: 3, Ppid: 4, Tag: 5, Window: 6, Out: 7, In: 8,
		Gaps: []api.Gap{{From: 1, To: 2}, {From: 3, To: 4}, {From: 5, To: 6}}[:2], Dups: []uint32{1, 2, 3}[:2],
		Skips: []api.Skip{{Stream: 1}, {Stream: 2}, {Stream: 3}}[:2], Params: params[:2], Body: []byte("body, and more")[:4],
	}
}

// look at all memory of chunks, the spare capacity too.
func look(cs []api.Chunk) string {
	var s strings.Builder
	for _, c := range cs[:cap(cs)] {
		fmt.Fprint(&s, c, c.Gaps[:cap(c.Gaps)], c.Dups[:cap(c.Dups)], c.Skips[:cap(c.Skips)], c.Body[:cap(c.Body)])
		for _, p := range c.Params[:cap(c.Params)] {
			fmt.Fprint(&s, p, p.Value[:cap(p.Value)])
		}
	}
	return s.String()
}

// spoil all memory of chunks, the spare capacity too.
func spoil(cs []api.Chunk) {
	for i := range cs[:cap(cs)] {
		c := &cs[:cap(cs)][i]
		for k := range c.Gaps[:cap(c.Gaps)] {
			c.Gaps[:cap(c.Gaps)][k] = api.Gap{From: 99}
		}
		for k := range c.Dups[:cap(c.Dups)] {
			c.Dups[:cap(c.Dups)][k] = 99
		}
		for k := range c.Skips[:cap(c.Skips)] {
			c.Skips[:cap(c.Skips)][k].Mid = 99
		}
		spoilBytes(c.Body)
		for k := range c.Params[:cap(c.Params)] {
			spoilBytes(c.Params[:cap(c.Params)][k].Value)
			c.Params[:cap(c.Params)][k] = api.Param{Kind: 99}
		}
		*c = api.Chunk{Kind: 99}
	}
}

func spoilBytes(b []byte) {
	for i := range b[:cap(b)] {
		b[:cap(b)][i] = 0xEE
	}
}

// fulls are chunks with all lists, that can be in one packet, and then one behind them.
func fulls() []api.Chunk {
	return []api.Chunk{full(api.Data), full(api.Sack), full(api.Config), full(api.IForward), full(api.Beat)}[:4]
}

func TestPutIsNew(t *testing.T) {
	cs := fulls()
	before := look(cs)
	first, _ := Put(holding(cs...))
	second, err := Put(holding(cs...))
	want := string(second)
	spoilBytes(first)
	if err != api.OK || look(cs) != before {
		t.Errorf("the chunks became %v, %v", cs, err)
	}
	spoil(cs)
	if string(second) != want {
		t.Errorf("the bytes became %x, want %x", second, want)
	}
}

func TestGetIsNew(t *testing.T) {
	b, _ := Put(holding(fulls()...))
	b = append(make([]byte, 0, 1300), b...)
	before := string(b[:cap(b)])
	first, _ := Get(b)
	second, err := Get(b)
	want := look(second.Chunks)
	// One by one: no list is a part of another one.
	for i := range first.Chunks {
		rest := first.Chunks[i+1 : len(first.Chunks) : len(first.Chunks)]
		wantRest := look(rest)
		spoil(first.Chunks[i : i+1 : i+1])
		if look(rest) != wantRest {
			t.Errorf("with chunk %d written to, the others became %v", i, rest)
		}
	}
	spoil(first.Chunks)
	if err != api.OK || string(b[:cap(b)]) != before {
		t.Errorf("the bytes became %x, %v", b, err)
	}
	spoilBytes(b)
	if look(second.Chunks) != want {
		t.Errorf("the chunks became %v", second.Chunks)
	}
}

func TestBundleIsNew(t *testing.T) {
	cs := append(fulls(), full(api.Init), full(api.Data), full(api.ShutdownDone), full(api.Beat))
	cs = append(cs, cs...) // each list twice
	cs = slices.Clip(cs)
	before := look(cs)
	groups, _ := Bundle(cs...)
	others, err := Bundle(cs...)
	if err != api.OK || len(groups) < 6 || !same(slices.Concat(groups...), cs) {
		t.Fatalf("Bundle = %d groups, %v", len(groups), err)
	}
	for i, g := range groups {
		var wantRest, rest string
		for _, other := range groups[i+1:] {
			wantRest += look(other)
		}
		for k := range g {
			behind := g[k+1 : len(g) : len(g)]
			wantBehind := look(behind)
			spoil(g[k : k+1 : k+1])
			if look(behind) != wantBehind {
				t.Errorf("with chunk %d of group %d written to, those behind it became %v", k, i, behind)
			}
		}
		spoil(g)
		for _, other := range groups[i+1:] {
			rest += look(other)
		}
		if rest != wantRest {
			t.Errorf("with group %d written to, those behind it changed", i)
		}
	}
	if look(cs) != before {
		t.Errorf("the chunks became %v", cs)
	}
	want := fmt.Sprint(others)
	spoil(cs)
	if fmt.Sprint(others) != want {
		t.Errorf("the groups became %v", others)
	}
}

// A list of groups, and the groups, may be appended to without a change to another one.
func TestBundleAppend(t *testing.T) {
	groups, _ := Bundle(many(150, ack)...)
	for i := range groups {
		_ = append(groups[i], end)
		spoil(groups[i][len(groups[i]):])
	}
	if !same(slices.Concat(groups...), many(150, ack)) {
		t.Errorf("the groups became %v", groups)
	}
}
