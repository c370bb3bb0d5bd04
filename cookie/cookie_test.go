package cookie

import (
	"bytes"
	"crypto/hmac"
	"crypto/sha256"
	"encoding/binary"
	"encoding/hex"
	"math/rand"
	"slices"
	"testing"

	"flume/api"
)

// Where the fields lie, by the chapter.
const (
	zeroAt = 25
	madeAt = 26
	sealAt = 38
	whole  = 70
)

var key = []byte("key")

// counted: a cookie of which no two bytes are the same, and these bytes without their seal.
var (
	counted = api.Cookie{
		Tag: 0x01020304, Peer: 0x05060708, Tsn: 0x090A0B0C, PeerTsn: 0x0D0E0F10, Window: 0x11121314,
		Out: 0x1516, In: 0x1718, Features: 0x19,
		Made: 0x1A1B1C1D, TieTag: 0x1E1F2021, TiePeer: 0x22232425,
	}
	countedText = []byte{
		1, 2, 3, 4, 5, 6, 7, 8, 9, 10, 11, 12, 13, 14, 15, 16, 17, 18, 19, 20,
		21, 22, 23, 24, 25, 0,
		26, 27, 28, 29, 30, 31, 32, 33, 34, 35, 36, 37,
	}
)

// sealed by another implementation.
func sealed(key, text []byte) []byte {
	h := hmac.New(sha256.New, key)
	h.Write(text)
	return h.Sum(slices.Clone(text))
}

// mixedBytes of chance.
func mixedBytes(r *rand.Rand, n int) []byte {
	b := make([]byte, n)
	r.Read(b)
	return b
}

// mixedCookie of chance, often with the ends of what its fields can hold.
func mixedCookie(r *rand.Rand) api.Cookie {
	word := func() uint32 {
		return []uint32{0, 1, 1<<31 - 1, 1 << 31, 1<<32 - 1, r.Uint32(), r.Uint32()}[r.Intn(7)]
	}
	short := func() uint16 { return []uint16{0, 1, 1 << 15, 1<<16 - 1, uint16(r.Uint32())}[r.Intn(5)] }
	return api.Cookie{
		Tag: word(), Peer: word(), Tsn: word(), PeerTsn: word(), Window: word(),
		Out: short(), In: short(), Features: uint8(r.Uint32()),
		Made: word(), TieTag: word(), TiePeer: word(),
	}
}

// plain cookie of 38 bytes: each field by its place.
func plain(b []byte) api.Cookie {
	word, short := binary.BigEndian.Uint32, binary.BigEndian.Uint16
	return api.Cookie{
		Tag: word(b), Peer: word(b[4:]), Tsn: word(b[8:]), PeerTsn: word(b[12:]), Window: word(b[16:]),
		Out: short(b[20:]), In: short(b[22:]), Features: b[24],
		Made: word(b[madeAt:]), TieTag: word(b[30:]), TiePeer: word(b[34:]),
	}
}

// plainOpen is P9.1, line by line.
func plainOpen(key, b []byte, now uint32) (api.Cookie, api.Errno) {
	switch {
	case len(b) < whole:
		return api.Cookie{}, api.ErrShort
	case len(b) > whole:
		return api.Cookie{}, api.ErrTrail
	case !bytes.Equal(sealed(key, b[:sealAt]), b):
		return api.Cookie{}, api.ErrMac
	case b[zeroAt] != 0:
		return api.Cookie{}, api.ErrForm
	}
	c := plain(b)
	if now-c.Made > 600 {
		return api.Cookie{}, api.ErrStale
	}
	return c, api.OK
}

// spaced: bytes with spare capacity behind them, that must stay as it is.
func spaced(b []byte) []byte {
	return append(slices.Clone(b), bytes.Repeat([]byte{0xEE}, 100)...)[:len(b)]
}

// kept: are bytes that spaced laid out still so?
func kept(b, want []byte) bool {
	return bytes.Equal(b, want) && bytes.Equal(b[len(b):len(b)+100], bytes.Repeat([]byte{0xEE}, 100))
}

func opens(t *testing.T, key, b []byte, now uint32, want api.Cookie) {
	t.Helper()
	if c, err := Open(key, b, now); c != want || err != api.OK {
		t.Errorf("Open(%x, %x, %d) = %v, %v, want %v", key, b, now, c, err, want)
	}
}

// refuses: the error, and beside it the zero cookie.
func refuses(t *testing.T, key, b []byte, now uint32, want api.Errno) {
	t.Helper()
	if c, err := Open(key, b, now); c != (api.Cookie{}) || err != want {
		t.Errorf("Open(%x, %x, %d) = %v, %v, want %v", key, b, now, c, err, want)
	}
}

// P9.1: the bytes.

func TestMake(t *testing.T) {
	if got, want := Make(key, counted), sealed(key, countedText); !bytes.Equal(got, want) {
		t.Errorf("Make = %x, want %x", got, want)
	}
	want := sealed(nil, make([]byte, sealAt))
	if got := Make(nil, api.Cookie{}); !bytes.Equal(got, want) {
		t.Errorf("Make of nothing = %x, want %x", got, want)
	}
	if got := Make([]byte{}, api.Cookie{}); !bytes.Equal(got, want) {
		t.Errorf("Make of nothing, with an empty key = %x, want %x", got, want)
	}
}

// A value worked out once by another program: openssl dgst -sha256 -hmac key.
func TestMakeKnown(t *testing.T) {
	const want = "7907d512ea1ed19a6be251694ff0bf3435e9e4a57f2f6a5fdffbb10240e6a683"
	if got := hex.EncodeToString(Make(key, counted)[sealAt:]); got != want {
		t.Errorf("seal = %s, want %s", got, want)
	}
}

// Each field alone, with all bits set: the others' bytes are zero.
func TestMakeOfFields(t *testing.T) {
	const all = 1<<32 - 1
	for _, x := range []struct {
		name     string
		c        api.Cookie
		from, to int
	}{
		{"Tag", api.Cookie{Tag: all}, 0, 4},
		{"Peer", api.Cookie{Peer: all}, 4, 8},
		{"Tsn", api.Cookie{Tsn: all}, 8, 12},
		{"PeerTsn", api.Cookie{PeerTsn: all}, 12, 16},
		{"Window", api.Cookie{Window: all}, 16, 20},
		{"Out", api.Cookie{Out: 1<<16 - 1}, 20, 22},
		{"In", api.Cookie{In: 1<<16 - 1}, 22, 24},
		{"Features", api.Cookie{Features: 255}, 24, 25},
		{"Made", api.Cookie{Made: all}, 26, 30},
		{"TieTag", api.Cookie{TieTag: all}, 30, 34},
		{"TiePeer", api.Cookie{TiePeer: all}, 34, 38},
	} {
		text := make([]byte, sealAt)
		for i := x.from; i < x.to; i++ {
			text[i] = 255
		}
		b := Make(key, x.c)
		if want := sealed(key, text); !bytes.Equal(b, want) {
			t.Errorf("%s: %x, want %x", x.name, b, want)
		}
		opens(t, key, b, x.c.Made, x.c)
	}
}

// Keys of all lengths around those at which layer 8 works out a digest.
func TestKeys(t *testing.T) {
	r := rand.New(rand.NewSource(1))
	for n := range 140 {
		k := mixedBytes(r, n)
		b := Make(k, counted)
		if want := sealed(k, countedText); !bytes.Equal(b, want) {
			t.Errorf("a key of %d bytes: %x, want %x", n, b, want)
		}
		opens(t, k, b, counted.Made, counted)
		for i := range k {
			other := slices.Clone(k)
			other[i] ^= 1
			refuses(t, other, b, counted.Made, api.ErrMac)
		}
		refuses(t, append(slices.Clone(k), 1), b, counted.Made, api.ErrMac)
		if n > 0 {
			refuses(t, nil, b, counted.Made, api.ErrMac)
		}
	}
}

// P9.1: the errors.

// The chapter's examples.
func TestOpen(t *testing.T) {
	c := api.Cookie{Tag: 1, Made: 100}
	b := Make(key, c)
	opens(t, key, b, 700, c)
	refuses(t, key, b, 701, api.ErrStale)
	refuses(t, key, b, 99, api.ErrStale)
	refuses(t, []byte("another"), b, 700, api.ErrMac)
	b[0] ^= 1
	refuses(t, key, b, 700, api.ErrMac)
}

// Each length: of a cookie's own bytes, of zeros, and of bytes that bear a seal of their own.
func TestOpenOfLengths(t *testing.T) {
	long := append(Make(key, counted), make([]byte, 200)...)
	for n := range len(long) + 1 {
		want := api.ErrShort
		if n > whole {
			want = api.ErrTrail
		}
		if n == whole {
			opens(t, key, long[:n], counted.Made, counted)
			refuses(t, key, make([]byte, n), 0, api.ErrMac)
			continue
		}
		refuses(t, key, long[:n], counted.Made, want)
		refuses(t, key, make([]byte, n), 0, want)
		if n >= 32 {
			refuses(t, key, sealed(key, make([]byte, n-32)), 0, want)
		}
	}
	refuses(t, nil, nil, 0, api.ErrShort)
	refuses(t, key, []byte{}, 0, api.ErrShort)
	refuses(t, key, make([]byte, 1<<20), 0, api.ErrTrail)
	refuses(t, key, append([]byte{0}, Make(key, counted)...), counted.Made, api.ErrTrail)
	refuses(t, key, slices.Repeat(Make(key, counted), 2), counted.Made, api.ErrTrail)
}

// Each bit of a cookie counts, those of its seal too, and each other value of each byte.
func TestOpenOfChangedBytes(t *testing.T) {
	b := Make(key, counted)
	for i := range b {
		for x := 1; x < 256; x++ {
			b[i] ^= byte(x)
			refuses(t, key, b, counted.Made, api.ErrMac)
			b[i] ^= byte(x)
		}
	}
	opens(t, key, b, counted.Made, counted)
}

// The seal of other bytes is none of these, nor one that is cut, moved or left out.
func TestOpenOfOtherSeals(t *testing.T) {
	one, other := counted, counted
	other.TiePeer++
	text, seal := Make(key, one)[:sealAt], Make(key, other)[sealAt:]
	refuses(t, key, slices.Concat(text, seal), one.Made, api.ErrMac)
	refuses(t, key, slices.Concat(text, make([]byte, 32)), one.Made, api.ErrMac)
	refuses(t, key, slices.Concat(Make(key, one)[sealAt:], text), one.Made, api.ErrMac)
	sum := sha256.Sum256(text)
	refuses(t, key, slices.Concat(text, sum[:]), one.Made, api.ErrMac)
	refuses(t, key, slices.Concat(text, sealed(text, key)[len(key):]), one.Made, api.ErrMac)
}

// Bytes that bear the right seal, but are not formed as they must be.
func TestOpenOfForm(t *testing.T) {
	text := slices.Clone(countedText)
	for x := 1; x < 256; x++ {
		text[zeroAt] = byte(x)
		refuses(t, key, sealed(key, text), counted.Made, api.ErrForm)
		refuses(t, key, sealed(key, text), counted.Made+601, api.ErrForm)
	}
	text[zeroAt] = 0
	opens(t, key, sealed(key, text), counted.Made, counted)
}

// Where more than one error applies, it is the first one.
func TestOpenOfFirstError(t *testing.T) {
	text := slices.Clone(countedText)
	text[zeroAt] = 1
	b := sealed(key, text)
	late := counted.Made + 601
	refuses(t, key, b, late, api.ErrForm)
	refuses(t, []byte("yek"), b, late, api.ErrMac)
	refuses(t, []byte("yek"), append(b, 0), late, api.ErrTrail)
	refuses(t, []byte("yek"), b[:whole-1], late, api.ErrShort)
	refuses(t, []byte("yek"), Make(key, counted), late, api.ErrMac)
	refuses(t, key, Make(key, counted), late, api.ErrStale)
	refuses(t, key, append(Make(key, counted), 0), late, api.ErrTrail)
	refuses(t, key, Make(key, counted)[:whole-1], late, api.ErrShort)
}

// P9.2: the ticks, also where they go round.

func TestLife(t *testing.T) {
	c := counted
	for _, made := range []uint32{0, 1, 100, 599, 600, 601, 1<<31 - 1, 1 << 31, 1<<32 - 601, 1<<32 - 600, 1<<32 - 599, 1<<32 - 1} {
		c.Made = made
		b := Make(key, c)
		for d := range uint32(600 + 1) {
			opens(t, key, b, made+d, c)
		}
		for _, d := range []uint32{601, 602, 1000, 1 << 16, 1<<31 - 1, 1 << 31, 1<<31 + 1, 1<<32 - 601, 1<<32 - 600, 1<<32 - 1} {
			refuses(t, key, b, made+d, api.ErrStale)
		}
	}
	if api.CookieLife != 600 {
		t.Errorf("CookieLife is %d", api.CookieLife)
	}
}

// What was made is opened, and the other way round.
func TestThereAndBack(t *testing.T) {
	r := rand.New(rand.NewSource(2))
	for range 2000 {
		c, k := mixedCookie(r), mixedBytes(r, r.Intn(100))
		b := Make(k, c)
		if len(b) != whole || plain(b) != c || b[zeroAt] != 0 {
			t.Fatalf("Make(%x, %v) = %x", k, c, b)
		}
		opens(t, k, b, c.Made+uint32(r.Intn(601)), c)
		text := mixedBytes(r, sealAt)
		text[zeroAt] = 0
		d, err := Open(k, sealed(k, text), plain(text).Made)
		if err != api.OK || !bytes.Equal(Make(k, d), sealed(k, text)) {
			t.Fatalf("Open of %x = %v, %v", text, d, err)
		}
	}
}

// Cookies changed, cut, made longer, sealed anew and opened at all times, held against the chapter's words.
func TestOpenOfMixed(t *testing.T) {
	r := rand.New(rand.NewSource(3))
	seen := map[api.Errno]int{}
	for range 20000 {
		k := mixedBytes(r, r.Intn(70))
		c := mixedCookie(r)
		b := Make(k, c)
		switch r.Intn(6) {
		case 0:
			b = b[:r.Intn(whole)]
		case 1:
			b = append(b, mixedBytes(r, 1+r.Intn(20))...)
		case 2:
			b[r.Intn(whole)] ^= 1 << r.Intn(8)
		case 3:
			b[zeroAt] = byte(r.Intn(3))
			b = sealed(k, b[:sealAt])
		}
		now := c.Made + []uint32{0, 1, 599, 600, 601, 602, 1<<32 - 1, r.Uint32()}[r.Intn(8)]
		want, wantErr := plainOpen(k, b, now)
		if got, err := Open(k, b, now); got != want || err != wantErr {
			t.Fatalf("Open(%x, %x, %d) = %v, %v, want %v, %v", k, b, now, got, err, want, wantErr)
		}
		seen[wantErr]++
	}
	for _, err := range []api.Errno{api.OK, api.ErrShort, api.ErrTrail, api.ErrMac, api.ErrForm, api.ErrStale} {
		if seen[err] < 100 {
			t.Errorf("%v was there %d times", err, seen[err])
		}
	}
}

// P9.2: memory.

// Arguments are as they were, with what lies behind them; key and bytes may share memory.
func TestReadsOnly(t *testing.T) {
	r := rand.New(rand.NewSource(4))
	for _, n := range []int{0, 1, 3, 38, 63, 64, 65, 130} {
		plainKey := mixedBytes(r, n)
		k := spaced(plainKey)
		made := sealed(plainKey, countedText)
		if got := Make(k, counted); !bytes.Equal(got, made) || !kept(k, plainKey) {
			t.Errorf("Make changed a key of %d bytes, or its result is wrong: %x", n, got)
		}
		changed := slices.Clone(made)
		changed[0]++
		for _, x := range [][]byte{nil, {}, made[:10], made[:whole-1], made, changed, append(slices.Clone(made), 1), make([]byte, 300)} {
			b := spaced(x)
			want, wantErr := plainOpen(plainKey, x, counted.Made)
			if got, err := Open(k, b, counted.Made); got != want || err != wantErr {
				t.Errorf("Open of %x = %v, %v, want %v, %v", x, got, err, want, wantErr)
			}
			if !kept(k, plainKey) || !kept(b, x) {
				t.Errorf("Open changed a key of %d bytes, or %x", n, x)
			}
		}
	}
	b := Make(key, counted)
	want := slices.Clone(b)
	refuses(t, b, b, counted.Made, api.ErrMac)
	refuses(t, b[:38], b, counted.Made, api.ErrMac)
	if !bytes.Equal(b, want) {
		t.Errorf("Open changed bytes that are the key too: %x", b)
	}
}

// One call leaves nothing for the next one: what was handed in or out may change after it.
func TestAgain(t *testing.T) {
	k := []byte("key")
	want := sealed(k, countedText)
	first := Make(k, counted)
	copy(k, "xyz")
	if !bytes.Equal(first, want) {
		t.Errorf("a changed key changes what was made: %x", first)
	}
	refuses(t, k, first, counted.Made, api.ErrMac)
	copy(k, "key")
	second := Make(k, counted)
	for _, b := range [][]byte{first, second} {
		for i := range b[:cap(b)] {
			b[:cap(b)][i] = 0xEE
		}
		third := Make(k, counted)
		if !bytes.Equal(third, want) {
			t.Errorf("a changed result changes what is made: %x", third)
		}
		c, err := Open(k, third, counted.Made)
		clear(third[:cap(third)])
		if c != counted || err != api.OK {
			t.Errorf("changed bytes change what was opened: %v, %v", c, err)
		}
	}
}

// Results share no memory, their spare capacity included.
func TestNewMemory(t *testing.T) {
	want := sealed(key, countedText)
	a, b := Make(key, counted), Make(key, counted)
	for i := range a[:cap(a)] {
		a[:cap(a)][i] = 0xEE
	}
	if !bytes.Equal(b, want) {
		t.Errorf("two results share memory: %x", b)
	}
	_ = append(b, bytes.Repeat([]byte{0xDD}, cap(b)-len(b))...)
	if !bytes.Equal(a[:cap(a)], bytes.Repeat([]byte{0xEE}, cap(a))) {
		t.Errorf("two results share spare capacity: %x", a[:cap(a)])
	}
}

// A cookie holds again and again, in whatever order it is opened: nothing is kept of a call.
func TestNothingIsKept(t *testing.T) {
	c := counted
	c.Made = 100
	b := Make(key, c)
	for range 3 {
		opens(t, key, b, 700, c)
		refuses(t, key, b, 701, api.ErrStale)
		refuses(t, []byte("yek"), b, 700, api.ErrMac)
		refuses(t, key, b[:69], 700, api.ErrShort)
		opens(t, key, b, 100, c)
	}
}
