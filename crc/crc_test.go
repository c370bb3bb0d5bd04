package crc

import (
	"bytes"
	"hash/crc32"
	"math/rand"
	"slices"
	"testing"
)

// repeated, rising: bytes whose check sums are known.
func repeated(b byte, n int) []byte { return bytes.Repeat([]byte{b}, n) }

func rising(n int) []byte {
	b := make([]byte, n)
	for i := range b {
		b[i] = byte(i)
	}
	return b
}

func mixed(r *rand.Rand, n int) []byte {
	b := make([]byte, n)
	r.Read(b)
	return b
}

// plainSum is the check sum as the chapter tells it, bit by bit.
func plainSum(b []byte) uint32 {
	register := uint32(0xFFFFFFFF)
	for _, x := range b {
		register ^= uint32(x)
		for i := 0; i < 8; i++ {
			out := register & 1
			register >>= 1
			if out == 1 {
				register ^= 0x82F63B78
			}
		}
	}
	return ^register
}

// plainSeal is a packet with its check sum at an offset, worked out over a copy with zeros.
func plainSeal(packet []byte, at int) []byte {
	b := slices.Clone(packet)
	copy(b[at:], []byte{0, 0, 0, 0})
	sum := plainSum(b)
	copy(b[at:], []byte{byte(sum), byte(sum >> 8), byte(sum >> 16), byte(sum >> 24)})
	return b
}

// P3.1

func TestSum(t *testing.T) {
	falling := rising(32)
	slices.Reverse(falling)
	for _, x := range []struct {
		b    []byte
		want uint32
	}{
		{[]byte("123456789"), 0xE3069283}, // the chapter's example
		{nil, 0},
		{[]byte{}, 0},
		{[]byte("a"), 0xC1D04330},
		{[]byte("abc"), 0x364B3FB7},
		{[]byte{0}, 0x527D5351},
		{repeated(0, 4), 0x48674BC7},
		{repeated(0xFF, 4), 0xFFFFFFFF},
		{repeated(0, 32), 0x8A9136AA}, // known values, of RFC 3720
		{repeated(0xFF, 32), 0x62A8AB43},
		{rising(32), 0x46DD794E},
		{falling, 0x113FDB5C},
	} {
		if got := Sum(x.b); got != x.want {
			t.Errorf("Sum(%q) = %08X, want %08X", x.b, got, x.want)
		}
	}
}

func TestSumOfNothing(t *testing.T) {
	if got := Sum(); got != 0 {
		t.Errorf("Sum() = %08X", got)
	}
	if got := Sum(nil, []byte{}, nil); got != 0 {
		t.Errorf("Sum of empty parts = %08X", got)
	}
}

// Each byte by itself, and after another one.
func TestSumOfBytes(t *testing.T) {
	for x := range 256 {
		for _, b := range [][]byte{{byte(x)}, {0, byte(x)}, {byte(x), 0}, {0xFF, byte(x)}} {
			if got, want := Sum(b), plainSum(b); got != want {
				t.Errorf("Sum(%x) = %08X, want %08X", b, got, want)
			}
		}
	}
}

func TestSumOfLengths(t *testing.T) {
	r := rand.New(rand.NewSource(1))
	table := crc32.MakeTable(crc32.Castagnoli)
	for _, n := range []int{1, 2, 3, 4, 5, 7, 8, 9, 15, 16, 17, 31, 32, 33, 1199, 1200, 1201, 65535, 65536, 1000000} {
		b := mixed(r, n)
		if got, want := Sum(b), crc32.Checksum(b, table); got != want {
			t.Errorf("Sum of %d bytes = %08X, want %08X", n, got, want)
		}
		if got, want := Sum(b), plainSum(b); got != want {
			t.Errorf("Sum of %d bytes = %08X, want %08X", n, got, want)
		}
	}
}

// Where parts are cut makes no difference: two cuts, at all places, and empty parts at both ends.
func TestSumOfParts(t *testing.T) {
	b := []byte("123456789")
	for i := range len(b) + 1 {
		for j := i; j <= len(b); j++ {
			for _, parts := range [][][]byte{
				{b[:i], b[i:j], b[j:]},
				{nil, b[:i], {}, b[i:j], nil, nil, b[j:], {}},
			} {
				if got := Sum(parts...); got != 0xE3069283 {
					t.Errorf("Sum(%q) = %08X", parts, got)
				}
			}
		}
	}
}

func TestSumOfManyParts(t *testing.T) {
	b := mixed(rand.New(rand.NewSource(2)), 3000)
	var parts [][]byte
	for i := range b {
		parts = append(parts, b[i:i+1])
	}
	if got, want := Sum(parts...), plainSum(b); got != want {
		t.Errorf("Sum = %08X, want %08X", got, want)
	}
}

// The order of parts counts, and the order of bytes.
func TestSumOfOrder(t *testing.T) {
	if Sum([]byte("ab"), []byte("c")) == Sum([]byte("c"), []byte("ab")) {
		t.Error("parts in another order have the same sum")
	}
	if Sum([]byte("ab")) == Sum([]byte("ba")) {
		t.Error("bytes in another order have the same sum")
	}
}

// What lies behind a part is no part of it, and a part is as it was.
func TestSumReadsOnly(t *testing.T) {
	b := []byte("123456789 and more")
	if got := Sum(b[:4], b[4:9]); got != 0xE3069283 {
		t.Errorf("Sum = %08X", got)
	}
	if string(b) != "123456789 and more" {
		t.Errorf("a part became %q", b)
	}
}

// One call leaves nothing for the next one.
func TestSumAgain(t *testing.T) {
	for range 3 {
		if got := Sum([]byte("123456789")); got != 0xE3069283 {
			t.Errorf("Sum = %08X", got)
		}
		Sum([]byte("something else"))
	}
}

// P3.2

func TestSeal(t *testing.T) {
	for _, x := range []struct {
		packet string
		at     int
		want   []byte
	}{
		{"\x00\x00\x00\x00", 0, []byte{0xC7, 0x4B, 0x67, 0x48}}, // four zeros: 48674BC7
		{"last", 0, []byte{0xC7, 0x4B, 0x67, 0x48}},
	} {
		got, ok := Seal([]byte(x.packet), x.at)
		if !ok || !bytes.Equal(got, x.want) {
			t.Errorf("Seal(%q, %d) = %x, %v, want %x", x.packet, x.at, got, ok, x.want)
		}
	}
}

func TestSealOfAllPlaces(t *testing.T) {
	r := rand.New(rand.NewSource(3))
	for n := 4; n <= 40; n++ {
		packet := mixed(r, n)
		for at := range n - 3 {
			got, ok := Seal(packet, at)
			if want := plainSeal(packet, at); !ok || !bytes.Equal(got, want) {
				t.Errorf("Seal of %d bytes at %d = %x, %v, want %x", n, at, got, ok, want)
			}
			if !Sealed(got, at) {
				t.Errorf("Seal of %d bytes at %d is not Sealed", n, at)
			}
		}
	}
}

// What was in the four bytes makes no difference: what is sealed is sealed once more as it is.
func TestSealOverOldSum(t *testing.T) {
	b := []byte("head....rest")
	want, _ := Seal(b, 4)
	for _, old := range []string{"\x00\x00\x00\x00", "\xFF\xFF\xFF\xFF", "abcd", string(want[4:8])} {
		copy(b[4:], old)
		if got, ok := Seal(b, 4); !ok || !bytes.Equal(got, want) {
			t.Errorf("Seal over %q = %x, want %x", old, got, want)
		}
	}
}

// wrongPlaces of n bytes: where there are not four of them.
func wrongPlaces(n int) []int {
	wrong := []int{-1, -2, -3, -4, -5, -n, -1 << 31, -1 << 63, -1<<63 + 3, 1 << 31, 1<<32 + 1, 1 << 62, 1<<63 - 1, 1<<63 - 4, 1<<63 - 5}
	for at := max(n-3, 0); at <= n+5; at++ {
		wrong = append(wrong, at)
	}
	return slices.DeleteFunc(wrong, func(at int) bool { return at == 0 && n >= 4 })
}

func TestSealOfWrongPlaces(t *testing.T) {
	for _, n := range []int{0, 1, 2, 3, 4, 5, 12, 1200} {
		packet := repeated(7, n)
		for _, at := range wrongPlaces(n) {
			if got, ok := Seal(packet, at); ok || len(got) > 0 {
				t.Errorf("Seal of %d bytes at %d = %x, %v", n, at, got, ok)
			}
			if Sealed(packet, at) {
				t.Errorf("Sealed of %d bytes at %d", n, at)
			}
		}
	}
	if got, ok := Seal(nil, 0); ok || len(got) > 0 || Sealed(nil, 0) {
		t.Errorf("Seal(nil, 0) = %x, %v", got, ok)
	}
}

// Bytes behind a packet's end, in its spare capacity, are none of the packet's.
func TestSealWithSpareBytes(t *testing.T) {
	whole, _ := Seal([]byte("headXXXX"), 4)
	for n := range 4 {
		short := whole[:4+n]
		if got, ok := Seal(short, 4); ok || len(got) > 0 || Sealed(short, 4) {
			t.Errorf("%d of four bytes: %x, %v", n, got, ok)
		}
	}
	more := append(slices.Clone(whole), "more"...)
	if got, ok := Seal(more[:8], 4); !ok || !bytes.Equal(got, whole) || !Sealed(more[:8], 4) {
		t.Errorf("Seal = %x, %v, want %x", got, ok, whole)
	}
}

// A packet is neither changed nor kept, and what is returned is new.
func TestSealIsNew(t *testing.T) {
	packet := append(make([]byte, 0, 64), "headXXXXrest"...)
	first, _ := Seal(packet, 4)
	second, _ := Seal(packet, 4)
	want := slices.Clone(second)
	if string(packet) != "headXXXXrest" || !bytes.Equal(packet[:64][12:], make([]byte, 52)) {
		t.Errorf("the packet became %q", packet[:64])
	}
	for i := range first[:cap(first)] {
		first[:cap(first)][i] = 0xEE
	}
	if string(packet) != "headXXXXrest" || !bytes.Equal(second, want) {
		t.Errorf("what was returned shares memory: %q, %x", packet, second)
	}
	copy(packet, "other packet")
	if !bytes.Equal(second, want) {
		t.Errorf("what was returned became %x", second)
	}
}

func TestSealedReadsOnly(t *testing.T) {
	b, _ := Seal([]byte("headXXXXrest"), 4)
	want := slices.Clone(b)
	for range 3 {
		if !Sealed(b, 4) || !bytes.Equal(b, want) {
			t.Errorf("asked: %x, want %x", b, want)
		}
	}
}

func TestSealedNot(t *testing.T) {
	b, _ := Seal([]byte("headXXXXrest"), 4)
	turned := slices.Clone(b)
	slices.Reverse(turned[4:8]) // the most significant byte first
	overAll := slices.Clone(b)  // the sum of what was there, in the place of zeros
	sum := Sum([]byte("headXXXXrest"))
	copy(overAll[4:], []byte{byte(sum), byte(sum >> 8), byte(sum >> 16), byte(sum >> 24)})
	left := slices.Concat(b[:4], b[8:]) // the sum of the rest, without zeros
	sum = Sum(left)
	without := slices.Concat(b[:4], []byte{byte(sum), byte(sum >> 8), byte(sum >> 16), byte(sum >> 24)}, b[8:])
	for name, x := range map[string]struct {
		b  []byte
		at int
	}{
		"never sealed":      {[]byte("headXXXXrest"), 4},
		"zeros":             {make([]byte, 12), 8},
		"at another offset": {b, 3},
		"at the next one":   {b, 5},
		"turned":            {turned, 4},
		"over all":          {overAll, 4},
		"without zeros":     {without, 4},
		"cut":               {b[:11], 4},
		"longer":            {append(slices.Clone(b), 0), 4},
		"later":             {append([]byte{0}, b...), 5},
	} {
		if Sealed(x.b, x.at) {
			t.Errorf("%s: %x is Sealed at %d", name, x.b, x.at)
		}
	}
}

// Of all that the four bytes may be, only the check sum will do.
func TestSealedByOneSum(t *testing.T) {
	b, _ := Seal([]byte("headXXXXrest"), 4)
	want := slices.Clone(b)
	for i := 4; i < 8; i++ {
		for x := range 256 {
			b[i] = byte(x)
			if got := Sealed(b, 4); got != bytes.Equal(b, want) {
				t.Errorf("Sealed(%x) = %v", b, got)
			}
		}
		b[i] = want[i]
	}
}

// P3.3

// invert bits of a copy: those that are set in the pattern, from bit first on. The least significant bit of a byte goes first.
func invert(b []byte, first int, pattern uint32) []byte {
	c := slices.Clone(b)
	for i := range 32 {
		if pattern>>i&1 == 1 {
			c[(first+i)/8] ^= 1 << ((first + i) % 8)
		}
	}
	return c
}

// patterns of bits within 32 in a row, the first of which is inverted: one, two, rows of each length, and some of chance.
func patterns(r *rand.Rand) []uint32 {
	all := []uint32{1, 0x82F63B79, 0x05EC76F1, 0x1EDC6F41, 0xAAAAAAAB, 0x55555555}
	for i := 1; i < 32; i++ {
		all = append(all, 1|1<<i, 1<<(i+1)-1)
	}
	for range 100 {
		all = append(all, r.Uint32()|1)
	}
	return all
}

// bound takes away the bits of a pattern that do not lie within the bits from, up to but without to.
func bound(pattern uint32, first, from, to int) uint32 {
	var kept uint32
	for i := range 32 {
		if first+i >= from && first+i < to {
			kept |= pattern & (1 << i)
		}
	}
	return kept
}

func TestInvertedBits(t *testing.T) {
	r := rand.New(rand.NewSource(4))
	all := patterns(r)
	for _, x := range []struct{ n, at int }{{4, 0}, {5, 0}, {5, 1}, {12, 4}, {16, 8}, {40, 0}, {40, 36}, {60, 8}, {60, 33}} {
		b, ok := Seal(mixed(r, x.n), x.at)
		if !ok || !Sealed(b, x.at) {
			t.Fatalf("%d bytes at %d: not sealed", x.n, x.at)
		}
		start, end := 8*x.at, 8*x.at+32
		for first := range 8 * x.n {
			for _, p := range all {
				for _, kept := range []uint32{bound(p, first, 0, start), bound(p, first, start, end), bound(p, first, end, 8*x.n)} {
					if kept != 0 && Sealed(invert(b, first, kept), x.at) {
						t.Fatalf("%d bytes at %d: bits %08X from %d on inverted, and Sealed", x.n, x.at, kept, first)
					}
				}
			}
		}
	}
}

// The longest packet, with each single bit inverted, and each row of 32.
func TestInvertedBitsOfLongest(t *testing.T) {
	b, _ := Seal(mixed(rand.New(rand.NewSource(5)), 1200), 8)
	for first := range 8 * len(b) {
		for _, p := range []uint32{1, 1<<32 - 1} {
			kept := bound(p, first, 0, 8*len(b))
			within := bound(kept, first, 64, 96)
			if within != 0 && within != kept {
				continue // some of these four bytes, and some of others
			}
			if Sealed(invert(b, first, kept), 8) {
				t.Fatalf("bits %08X from %d on inverted, and Sealed", kept, first)
			}
		}
	}
}

// Of bits both in these four bytes and outside nothing is promised: they may turn one sealed packet into another one.
func TestInvertedBitsOfBothKinds(t *testing.T) {
	b, _ := Seal([]byte("headXXXXrest"), 4)
	forged := slices.Clone(b)
	forged[0] ^= 1
	again, _ := Seal(forged, 4)
	if bytes.Equal(again[4:8], b[4:8]) || !Sealed(again, 4) {
		t.Errorf("%x", again)
	}
}

// Every single bit of short packets, sealed at every place.
func TestInvertedBitsOfAllPlaces(t *testing.T) {
	for n := 4; n <= 20; n++ {
		for at := range n - 3 {
			b, _ := Seal(rising(n), at)
			for first := range 8 * n {
				if Sealed(invert(b, first, 1), at) {
					t.Errorf("%d bytes at %d: bit %d inverted, and Sealed", n, at, first)
				}
			}
		}
	}
}
