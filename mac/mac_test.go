package mac

import (
	"bytes"
	"crypto/hmac"
	"crypto/sha256"
	"encoding/hex"
	"math/big"
	"math/rand"
	"slices"
	"strings"
	"testing"
)

// mixedBytes of chance.
func mixedBytes(r *rand.Rand, n int) []byte {
	b := make([]byte, n)
	r.Read(b)
	return b
}

func repeated(b byte, n int) []byte { return bytes.Repeat([]byte{b}, n) }

// spaced: bytes with spare capacity behind them, that must stay as it is.
func spaced(b []byte) []byte {
	return append(append(make([]byte, 0, len(b)+100), b...), repeated(0xEE, 100)...)[:len(b)]
}

// spareOf bytes: what spaced laid behind them.
func spareOf(b []byte) []byte { return b[len(b):cap(b)] }

// hashHex, sealHex: in the way in which known values are told.
func hashHex(parts ...[]byte) string {
	d := Hash(parts...)
	return hex.EncodeToString(d[:])
}

func sealHex(key []byte, parts ...[]byte) string {
	d := Seal(key, parts...)
	return hex.EncodeToString(d[:])
}

// plainSeal is the seal of another implementation.
func plainSeal(key []byte, parts ...[]byte) [32]byte {
	h := hmac.New(sha256.New, key)
	for _, part := range parts {
		h.Write(part)
	}
	return [32]byte(h.Sum(nil))
}

// cut bytes at places of chance, with empty parts among the others.
func cut(r *rand.Rand, b []byte) [][]byte {
	var parts [][]byte
	for len(b) > 0 {
		n := r.Intn(min(len(b), 150) + 1)
		parts = append(parts, b[:n])
		b = b[n:]
	}
	return append(parts, nil)
}

// P8.1

func TestHash(t *testing.T) {
	for _, x := range []struct{ text, want string }{
		{"abc", "ba7816bf8f01cfea414140de5dae2223b00361a396177a9cb410ff61f20015ad"}, // the chapter's example
		// Known values, of FIPS 180-2 and of its implementations.
		{"", "e3b0c44298fc1c149afbf4c8996fb92427ae41e4649b934ca495991b7852b855"},
		{"a", "ca978112ca1bbdcafac231b39a23dc4da786eff8147c4e72b9807785afee48bb"},
		{"abcdbcdecdefdefgefghfghighijhijkijkljklmklmnlmnomnopnopq", "248d6a61d20638b8e5c026930c3e6039a33ce45964ff2167f6ecedd419db06c1"},
		{"abcdefghbcdefghicdefghijdefghijkefghijklfghijklmghijklmnhijklmnoijklmnopjklmnopqklmnopqrlmnopqrsmnopqrstnopqrstu", "cf5b16a778af8380036ce59e7b0492370b249b11e8f07a51afac45037afee9d1"},
		{strings.Repeat("a", 1000000), "cdc76e5c9914fb9281a1c7e284d73e67f1809a48a497200e046d39ccc7112cd0"},
	} {
		if got := hashHex([]byte(x.text)); got != x.want {
			t.Errorf("Hash of %.20q, %d bytes = %s, want %s", x.text, len(x.text), got, x.want)
		}
	}
}

func TestHashOfNothing(t *testing.T) {
	want := sha256.Sum256(nil)
	if got := Hash(); got != want {
		t.Errorf("Hash() = %x", got)
	}
	if got := Hash([][]byte(nil)...); got != want {
		t.Errorf("Hash of no list = %x", got)
	}
	if got := Hash(nil, []byte{}, nil); got != want {
		t.Errorf("Hash of empty parts = %x", got)
	}
}

// Each length around several blocks: 55 and 56, 63 and 64, where the ending takes one block or two, and the like.
func TestHashOfLengths(t *testing.T) {
	r := rand.New(rand.NewSource(1))
	lengths := []int{1199, 1200, 1201, 4095, 4096, 65535, 65536, 65537, 1 << 21}
	for n := range 330 {
		lengths = append(lengths, n)
	}
	for _, n := range lengths {
		for _, b := range [][]byte{mixedBytes(r, n), repeated(0, n), repeated(0xFF, n), repeated(0x80, n)} {
			if got, want := Hash(b), sha256.Sum256(b); got != want {
				t.Fatalf("Hash of %d bytes like %.4x = %x, want %x", n, b, got, want)
			}
		}
	}
}

// Each single bit counts, of each byte of one block and of the next.
func TestHashOfBits(t *testing.T) {
	for _, n := range []int{1, 55, 64, 100} {
		for i := range 8 * n {
			b := make([]byte, n)
			b[i/8] = 1 << (i % 8)
			if got, want := Hash(b), sha256.Sum256(b); got != want {
				t.Fatalf("Hash of %d bytes with bit %d = %x, want %x", n, i, got, want)
			}
		}
	}
}

// Zeros at the end, and what looks like an ending, are bytes as all others.
func TestHashOfEndings(t *testing.T) {
	seen := map[[32]byte]string{}
	for _, text := range []string{"", "\x00", "\x00\x00", "\x80", "\x80\x00", "a", "a\x00", "a\x80", "a\x80\x00", "\x00a", "a" + string(ending(1)), string(ending(0))} {
		got := Hash([]byte(text))
		if want := sha256.Sum256([]byte(text)); got != want {
			t.Errorf("Hash(%q) = %x, want %x", text, got, want)
		}
		if other, ok := seen[got]; ok {
			t.Errorf("%q and %q have the same digest", text, other)
		}
		seen[got] = text
	}
}

// Where parts are cut makes no difference: two cuts, at all places of more than two blocks, and empty parts among them.
func TestHashOfParts(t *testing.T) {
	b := mixedBytes(rand.New(rand.NewSource(2)), 135)
	want := sha256.Sum256(b)
	for i := range len(b) + 1 {
		for j := i; j <= len(b); j++ {
			if got := Hash(b[:i], b[i:j], b[j:]); got != want {
				t.Fatalf("cut at %d and %d: %x, want %x", i, j, got, want)
			}
		}
		if got := Hash(nil, b[:i], []byte{}, nil, b[i:], nil); got != want {
			t.Fatalf("cut at %d, with empty parts: %x, want %x", i, got, want)
		}
	}
}

func TestHashOfManyParts(t *testing.T) {
	r := rand.New(rand.NewSource(3))
	b := mixedBytes(r, 5000)
	want := sha256.Sum256(b)
	var single [][]byte
	for i := range b {
		single = append(single, b[i:i+1])
	}
	if got := Hash(single...); got != want {
		t.Errorf("byte by byte: %x, want %x", got, want)
	}
	for range 200 {
		n := r.Intn(len(b) + 1)
		if got, want := Hash(cut(r, b[:n])...), sha256.Sum256(b[:n]); got != want {
			t.Fatalf("%d bytes in parts: %x, want %x", n, got, want)
		}
	}
}

// The order of parts counts, and one part may be there more than once.
func TestHashOfOrder(t *testing.T) {
	a, b := []byte("one"), []byte("two")
	for _, x := range []struct {
		parts [][]byte
		text  string
	}{
		{[][]byte{a, b}, "onetwo"},
		{[][]byte{b, a}, "twoone"},
		{[][]byte{a, b, a, a}, "onetwooneone"},
	} {
		if got, want := Hash(x.parts...), sha256.Sum256([]byte(x.text)); got != want {
			t.Errorf("Hash(%q) = %x, want %x", x.parts, got, want)
		}
	}
}

// The ending: 128, as few zeros as there may be, and the number of bits, also where that takes more than 32 bits.
func TestEnding(t *testing.T) {
	lengths := []uint64{1<<29 - 1, 1 << 29, 1<<29 + 1, 1<<31 - 1, 1 << 31, 1<<40 + 12345}
	for n := range uint64(200) {
		lengths = append(lengths, n)
	}
	for _, n := range lengths {
		want := []byte{128}
		for (n+uint64(len(want))+8)%64 != 0 {
			want = append(want, 0)
		}
		count := new(big.Int).Lsh(new(big.Int).SetUint64(n), 3)
		want = append(want, count.FillBytes(make([]byte, 8))...)
		if got := ending(n); !bytes.Equal(got, want) {
			t.Errorf("ending of %d bytes = %x, want %x", n, got, want)
		}
	}
}

// Blocks come one after the other, whatever the parts are, and end when no more are asked for.
func TestBlocks(t *testing.T) {
	r := rand.New(rand.NewSource(10))
	b := mixedBytes(r, 64*5)
	for range 50 {
		parts := cut(r, b)
		for most := 1; most <= 5; most++ {
			var got []byte
			for block := range blocks(parts) {
				got = append(got, block[:]...)
				if len(got) == 64*most {
					break
				}
			}
			if !bytes.Equal(got, b[:64*most]) {
				t.Fatalf("%d blocks are %x", most, got)
			}
		}
	}
}

// root of a prime: the first 32 bits of its fractional part.
func root(prime int64, degree int) uint32 {
	target := new(big.Int).Lsh(big.NewInt(prime), uint(32*degree))
	whole := new(big.Int)
	for i := 40; i >= 0; i-- {
		more := new(big.Int).SetBit(whole, i, 1)
		if new(big.Int).Exp(more, big.NewInt(int64(degree)), nil).Cmp(target) <= 0 {
			whole = more
		}
	}
	return uint32(whole.Uint64())
}

func TestTables(t *testing.T) {
	i := 0
	for n := int64(2); i < len(rounds); n++ {
		if !big.NewInt(n).ProbablyPrime(0) {
			continue
		}
		if want := root(n, 3); rounds[i] != want {
			t.Errorf("round %d has %08X, want %08X", i, rounds[i], want)
		}
		if i < len(first) && first[i] != root(n, 2) {
			t.Errorf("first word %d is %08X, want %08X", i, first[i], root(n, 2))
		}
		i++
	}
}

// Parts are as they were, with what lies behind them, and so is the list of them.
func TestHashReadsOnly(t *testing.T) {
	r := rand.New(rand.NewSource(4))
	for _, n := range []int{0, 1, 55, 56, 64, 65, 130} {
		b := mixedBytes(r, n)
		part, other := spaced(b), spaced([]byte("other"))
		list := [][]byte{part, other, {1}, {2}}
		want := sha256.Sum256(append(slices.Clone(b), "other"...))
		if got := Hash(list[:2]...); got != want {
			t.Errorf("%d bytes: %x, want %x", n, got, want)
		}
		if !bytes.Equal(part, b) || string(other) != "other" {
			t.Errorf("%d bytes: a part was changed", n)
		}
		if !bytes.Equal(spareOf(part), repeated(0xEE, 100)) || !bytes.Equal(spareOf(other), repeated(0xEE, 100)) {
			t.Errorf("%d bytes: what lies behind a part was changed", n)
		}
		if list[2][0] != 1 || list[3][0] != 2 {
			t.Errorf("%d bytes: the list of parts was changed", n)
		}
	}
}

// One call leaves nothing for the next one, and a part may change after it.
func TestHashAgain(t *testing.T) {
	b := []byte("abc")
	want := sha256.Sum256(b)
	for range 3 {
		got := Hash(b)
		copy(b, "xyz")
		if got != want {
			t.Errorf("Hash = %x, want %x", got, want)
		}
		Hash(b, repeated(1, 1000))
		Seal(b, b)
		copy(b, "abc")
	}
}

// P8.2

func TestSeal(t *testing.T) {
	counted := make([]byte, 25)
	for i := range counted {
		counted[i] = byte(i + 1)
	}
	for _, x := range []struct {
		key, text []byte
		want      string
	}{
		{[]byte("Jefe"), []byte("what do ya want for nothing?"), "5bdcc146bf60754e6a042426089575c75a003f089d2739839dec58b964ec3843"}, // the chapter's example
		// Known values, of RFC 4231, and of no key and no text.
		{repeated(0x0B, 20), []byte("Hi There"), "b0344c61d8db38535ca8afceaf0bf12b881dc200c9833da726e9376c2e32cff7"},
		{repeated(0xAA, 20), repeated(0xDD, 50), "773ea91e36800e46854db8ebd09181a72959098b3ef8c122d9635514ced565fe"},
		{counted, repeated(0xCD, 50), "82558a389a443c0ea4cc819899f2083a85f0faa3e578f8077a2e3ff46729665b"},
		{repeated(0xAA, 131), []byte("Test Using Larger Than Block-Size Key - Hash Key First"), "60e431591ee0b67f0d8a26aacbf5b77f8e0bc6213728c5140546040f0ee37f54"},
		{repeated(0xAA, 131), []byte("This is a test using a larger than block-size key and a larger than block-size data. The key needs to be hashed before being used by the HMAC algorithm."), "9b09ffa71b942fcb27635fbcd5b0e944bfdc63644f0713938a7f51535c3a35e2"},
		{nil, nil, "b613679a0814d9ec772f95d778c35fc5ff1697c493715653c6c712144292c5ad"},
	} {
		if got := sealHex(x.key, x.text); got != x.want {
			t.Errorf("Seal(%.10x, %.20q) = %s, want %s", x.key, x.text, got, x.want)
		}
	}
}

func TestSealOfNothing(t *testing.T) {
	want := plainSeal(nil)
	if Seal(nil) != want || Seal([]byte{}) != want || Seal(nil, nil, []byte{}) != want || Seal([]byte{}, [][]byte(nil)...) != want {
		t.Error("seals of nothing with no key differ")
	}
}

// As the chapter tells it, of this package's own Hash.
func TestSealByHash(t *testing.T) {
	r := rand.New(rand.NewSource(5))
	for _, n := range []int{0, 1, 32, 63, 64, 65, 200} {
		key, text := mixedBytes(r, n), mixedBytes(r, r.Intn(200))
		var k [64]byte
		if n > 64 {
			digest := Hash(key)
			copy(k[:], digest[:])
		} else {
			copy(k[:], key)
		}
		var in, out []byte
		for _, x := range k {
			in, out = append(in, x^0x36), append(out, x^0x5C)
		}
		digest := Hash(in, text)
		if got, want := Seal(key, text), Hash(out, digest[:]); got != want {
			t.Errorf("a key of %d bytes: %x, want %x", n, got, want)
		}
	}
}

// Keys of each length, up to past two blocks, and texts of each length.
func TestSealOfLengths(t *testing.T) {
	r := rand.New(rand.NewSource(6))
	for n := range 200 {
		key := mixedBytes(r, n)
		for _, m := range []int{0, 1, 55, 56, 64, n, r.Intn(2000)} {
			text := mixedBytes(r, m)
			if got, want := Seal(key, text), plainSeal(key, text); got != want {
				t.Fatalf("%d bytes with a key of %d: %x, want %x", m, n, got, want)
			}
		}
	}
	key, text := mixedBytes(r, 1<<20), mixedBytes(r, 1<<20)
	if got, want := Seal(key, text), plainSeal(key, text); got != want {
		t.Errorf("long ones: %x, want %x", got, want)
	}
}

// 64 bytes are a key as it is; of 65 it is the digest, which as a key of its own seals the same.
func TestSealOfLongKeys(t *testing.T) {
	text := []byte("text")
	for _, n := range []int{63, 64, 65, 66, 128, 129} {
		key := repeated(7, n)
		digest := Hash(key)
		if got, want := Seal(key, text) == Seal(digest[:], text), n > 64; got != want {
			t.Errorf("a key of %d bytes seals as its digest: %v", n, got)
		}
	}
}

// Zeros at the end of a key make no difference, up to 64 bytes; at its start they do.
func TestSealOfPaddedKeys(t *testing.T) {
	text := []byte("text")
	want := Seal([]byte("key"), text)
	for n := range 100 {
		padded := append([]byte("key"), make([]byte, n)...)
		if got := Seal(padded, text) == want; got != (len(padded) <= 64) {
			t.Errorf("a key with %d zeros behind it seals the same: %v", n, got)
		}
		if n > 0 && Seal(append(make([]byte, n), "key"...), text) == want {
			t.Errorf("a key with %d zeros ahead of it seals the same", n)
		}
	}
	if Seal(nil, text) != Seal(make([]byte, 64), text) {
		t.Error("no key is not 64 zeros")
	}
}

func TestSealOfParts(t *testing.T) {
	r := rand.New(rand.NewSource(7))
	key, b := mixedBytes(r, 40), mixedBytes(r, 135)
	want := plainSeal(key, b)
	for i := range len(b) + 1 {
		for j := i; j <= len(b); j++ {
			if got := Seal(key, b[:i], b[i:j], b[j:]); got != want {
				t.Fatalf("cut at %d and %d: %x, want %x", i, j, got, want)
			}
		}
	}
	for range 200 {
		key, b := mixedBytes(r, r.Intn(150)), mixedBytes(r, r.Intn(1000))
		if got, want := Seal(key, cut(r, b)...), plainSeal(key, b); got != want {
			t.Fatalf("%d bytes in parts: %x, want %x", len(b), got, want)
		}
	}
}

// The key is no part, and no part is the key.
func TestSealOfOrder(t *testing.T) {
	a, b := []byte("one"), []byte("two")
	seals := [][32]byte{Seal(a, b), Seal(b, a), Seal(nil, a, b), Seal(append(slices.Clone(a), b...)), Seal(a), Seal(b), Hash(a, b), Seal(a, b, b), Seal(a, a, b), Seal(a, b, a)}
	for i := range seals {
		for j := range i {
			if seals[i] == seals[j] {
				t.Errorf("seals %d and %d are the same", i, j)
			}
		}
	}
}

// Each bit of a key and of a text counts.
func TestSealOfBits(t *testing.T) {
	for _, n := range []int{1, 20, 64, 65} {
		key, text := repeated(3, n), repeated(9, n)
		want := Seal(key, text)
		for i := range 8 * n {
			key[i/8] ^= 1 << (i % 8)
			if Seal(key, text) == want {
				t.Errorf("bit %d of a key of %d bytes does not count", i, n)
			}
			key[i/8] ^= 1 << (i % 8)
			text[i/8] ^= 1 << (i % 8)
			if Seal(key, text) == want {
				t.Errorf("bit %d of a text of %d bytes does not count", i, n)
			}
			text[i/8] ^= 1 << (i % 8)
		}
	}
}

// Key and parts are as they were, with what lies behind them; they may share memory.
func TestSealReadsOnly(t *testing.T) {
	r := rand.New(rand.NewSource(8))
	for _, n := range []int{0, 1, 32, 63, 64, 65, 130} {
		b := mixedBytes(r, n)
		key, part := spaced(b), spaced([]byte("part"))
		list := [][]byte{part, key, {1}, {2}}
		want := plainSeal(b, []byte("part"), b)
		for range 2 {
			if got := Seal(key, list[:2]...); got != want {
				t.Errorf("%d bytes: %x, want %x", n, got, want)
			}
		}
		if !bytes.Equal(key, b) || string(part) != "part" {
			t.Errorf("%d bytes: the key or a part was changed", n)
		}
		if !bytes.Equal(spareOf(key), repeated(0xEE, 100)) || !bytes.Equal(spareOf(part), repeated(0xEE, 100)) {
			t.Errorf("%d bytes: what lies behind the key or a part was changed", n)
		}
		if !bytes.Equal(list[0], part) || !bytes.Equal(list[1], key) || list[2][0] != 1 || list[3][0] != 2 {
			t.Errorf("%d bytes: the list of parts was changed", n)
		}
	}
}

// P8.3

func TestSame(t *testing.T) {
	r := rand.New(rand.NewSource(9))
	for _, a := range [][32]byte{{}, [32]byte(repeated(0xFF, 32)), [32]byte(mixedBytes(r, 32)), Hash([]byte("abc"))} {
		b := a
		if !Same(a, b) || !Same(a, a) {
			t.Errorf("%x is not the same as itself", a)
		}
	}
}

// Each other value of each byte, and no other difference.
func TestSameOfBytes(t *testing.T) {
	a := Hash([]byte("abc"))
	for i := range a {
		for x := 1; x < 256; x++ {
			b := a
			b[i] ^= byte(x)
			if Same(a, b) || Same(b, a) {
				t.Errorf("byte %d is not the same, by %02X", i, x)
			}
		}
	}
}

// Differences that would cancel each other out, if they were summed up.
func TestSameOfTwoBytes(t *testing.T) {
	a := Hash([]byte("abc"))
	for i := range a {
		for j := range i {
			equal := a
			equal[i] ^= 0x81
			equal[j] ^= 0x81
			opposed := a
			opposed[i] += 100
			opposed[j] -= 100
			turned := a
			turned[i], turned[j] = turned[j], turned[i]
			for _, b := range [][32]byte{equal, opposed, turned} {
				if b != a && (Same(a, b) || Same(b, a)) {
					t.Errorf("bytes %d and %d are not the same: %x", i, j, b)
				}
			}
		}
	}
	all := a
	for i := range all {
		all[i] ^= 0xFF
	}
	if Same(a, all) || Same(all, a) || Same([32]byte{}, a) || Same(a, [32]byte{}) {
		t.Error("what differs in all bytes is the same")
	}
}

// Of few values all pairs.
func TestSameOfPairs(t *testing.T) {
	var all [][32]byte
	for x := range 81 {
		var a [32]byte
		for i, n := range []int{0, 1, 30, 31} {
			a[n] = byte(x / []int{1, 3, 9, 27}[i] % 3)
		}
		all = append(all, a)
	}
	for i, a := range all {
		for j, b := range all {
			if got := Same(a, b); got != (i == j) {
				t.Errorf("Same(%x, %x) = %v", a, b, got)
			}
		}
	}
}
