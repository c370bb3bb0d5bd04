package octet

import (
	"bytes"
	"fmt"
	"math/rand"
	"slices"
	"testing"

	"flume/api"
)

// counts that no reader has so many bytes for, or that are negative.
var wrongCounts = []int{-1, -2, -1 << 31, -1 << 63, -1<<63 + 1, 1 << 31, 1 << 32, 1<<32 + 1, 1<<63 - 1, 1<<63 - 2}

func rising(n int) []byte {
	b := make([]byte, n)
	for i := range b {
		b[i] = byte(i + 1)
	}
	return b
}

// stands: does a reader tell this of itself?
func stands(t *testing.T, name string, r *Reader, left int, good bool, end api.Errno) {
	t.Helper()
	// Twice, as asking changes nothing.
	for range 2 {
		if r.Left() != left || r.Good() != good || r.End() != end {
			t.Errorf("%s: left %d, good %v, end %v, want %d, %v, %v", name, r.Left(), r.Good(), r.End(), left, good, end)
		}
	}
}

// isBad: is a reader bad, and does it stay so, whatever is read?
func isBad(t *testing.T, name string, r *Reader) {
	t.Helper()
	stands(t, name, r, 0, false, api.ErrShort)
	for range 2 {
		if x := r.U8(); x != 0 {
			t.Errorf("%s: U8 = %d", name, x)
		}
		if x := r.U16(); x != 0 {
			t.Errorf("%s: U16 = %d", name, x)
		}
		if x := r.U32(); x != 0 {
			t.Errorf("%s: U32 = %d", name, x)
		}
		for _, n := range append([]int{0, 1, 2}, wrongCounts...) {
			if b := r.Take(n); len(b) > 0 {
				t.Errorf("%s: Take(%d) = %x", name, n, b)
			}
		}
		stands(t, name, r, 0, false, api.ErrShort)
	}
}

// holds: does a writer have these bytes?
func holds(t *testing.T, name string, w *Writer, want string) {
	t.Helper()
	for range 2 {
		if got := w.Out(); string(got) != want || w.Len() != len(want) {
			t.Errorf("%s: %x, and len %d, want %x", name, got, w.Len(), want)
		}
	}
}

// The chapter's examples

func TestExamples(t *testing.T) {
	w := &Writer{}
	w.Put([]byte("abc"))
	w.Pad(4)
	w.U16(258)
	holds(t, "written", w, "abc\x00\x01\x02")
	r := NewReader(w.Out())
	if b := r.Take(3); string(b) != "abc" {
		t.Errorf("Take(3) = %q", b)
	}
	if x := r.U8(); x != 0 {
		t.Errorf("U8 = %d", x)
	}
	if x := r.U16(); x != 258 {
		t.Errorf("U16 = %d", x)
	}
	stands(t, "read", r, 0, true, api.OK)
	if x := r.U8(); x != 0 {
		t.Errorf("U8 = %d", x)
	}
	isBad(t, "read past the end", r)
}

// P4.1

func TestNewReader(t *testing.T) {
	stands(t, "nil", NewReader(nil), 0, true, api.OK)
	stands(t, "empty", NewReader([]byte{}), 0, true, api.OK)
	for _, n := range []int{1, 2, 4, 1200, 65536} {
		stands(t, fmt.Sprint(n), NewReader(rising(n)), n, true, api.ErrTrail)
	}
}

func TestReadNumbers(t *testing.T) {
	b := []byte{0x81, 0x02, 0xF3, 0x04, 0xFF, 0xFE, 0x7D, 0x00, 0x01, 0x00, 0x00, 0x00}
	r := NewReader(b)
	if x := r.U8(); x != 0x81 {
		t.Errorf("U8 = %x", x)
	}
	stands(t, "after 1", r, 11, true, api.ErrTrail)
	if x := r.U16(); x != 0x02F3 {
		t.Errorf("U16 = %x", x)
	}
	stands(t, "after 3", r, 9, true, api.ErrTrail)
	if x := r.U32(); x != 0x04FFFE7D {
		t.Errorf("U32 = %x", x)
	}
	stands(t, "after 7", r, 5, true, api.ErrTrail)
	if x := r.U32(); x != 0x00010000 {
		t.Errorf("U32 = %x", x)
	}
	stands(t, "after 11", r, 1, true, api.ErrTrail)
	if x := r.U8(); x != 0 {
		t.Errorf("U8 = %x", x)
	}
	stands(t, "after all", r, 0, true, api.OK)
}

// Zeros are numbers as others are: the reader stays good.
func TestReadZeros(t *testing.T) {
	r := NewReader(make([]byte, 7))
	if r.U32() != 0 || r.U16() != 0 || r.U8() != 0 {
		t.Error("zeros are not 0")
	}
	stands(t, "zeros", r, 0, true, api.OK)
}

func TestReadHighest(t *testing.T) {
	r := NewReader(bytes.Repeat([]byte{0xFF}, 7))
	if r.U8() != 1<<8-1 || r.U16() != 1<<16-1 || r.U32() != 1<<32-1 {
		t.Error("ones are not the highest numbers")
	}
	stands(t, "ones", r, 0, true, api.OK)
}

func TestTake(t *testing.T) {
	for n := range 12 {
		b := rising(n)
		for k := range n + 1 {
			r := NewReader(b)
			if got := r.Take(k); !bytes.Equal(got, b[:k]) {
				t.Errorf("%d bytes: Take(%d) = %x", n, k, got)
			}
			if r.Left() != n-k || !r.Good() {
				t.Errorf("%d bytes: Take(%d) left %d, good %v", n, k, r.Left(), r.Good())
			}
			if got := r.Take(n - k); !bytes.Equal(got, b[k:]) {
				t.Errorf("%d bytes: Take(%d) after %d = %x", n, n-k, k, got)
			}
			stands(t, fmt.Sprint(n, " bytes after ", k), r, 0, true, api.OK)
		}
	}
}

// None are taken: at the beginning, between, and at the end, and the reader stays good.
func TestTakeNone(t *testing.T) {
	r := NewReader([]byte("ab"))
	for left := 2; left >= 0; left-- {
		for range 3 {
			if b := r.Take(0); len(b) > 0 {
				t.Errorf("Take(0) = %x", b)
			}
		}
		if r.Left() != left || !r.Good() {
			t.Errorf("Take(0) left %d, want %d, good %v", r.Left(), left, r.Good())
		}
		if left > 0 {
			r.U8()
		}
	}
	stands(t, "none taken", r, 0, true, api.OK)
}

// Fewer bytes are left than are asked for: by one at least, after each number of bytes that were read.
func TestReadTooMany(t *testing.T) {
	for _, x := range []struct {
		name string
		size int
		read func(r *Reader) uint32
	}{
		{"U8", 1, func(r *Reader) uint32 { return uint32(r.U8()) }},
		{"U16", 2, func(r *Reader) uint32 { return uint32(r.U16()) }},
		{"U32", 4, func(r *Reader) uint32 { return r.U32() }},
		{"Take", 9, func(r *Reader) uint32 { return uint32(len(r.Take(9))) }},
	} {
		for left := range x.size {
			for read := range 5 {
				r := NewReader(rising(read + left))
				r.Take(read)
				name := fmt.Sprint(x.name, " of ", left, " after ", read)
				if got := x.read(r); got != 0 {
					t.Errorf("%s = %d", name, got)
				}
				isBad(t, name, r)
			}
		}
	}
}

func TestTakeWrong(t *testing.T) {
	for _, n := range append([]int{11, 12, 16}, wrongCounts...) {
		for _, read := range []int{0, 1, 9, 10} {
			r := NewReader(rising(10))
			r.Take(read)
			name := fmt.Sprint("Take(", n, ") after ", read)
			if b := r.Take(n); len(b) > 0 {
				t.Errorf("%s = %x", name, b)
			}
			isBad(t, name, r)
		}
	}
}

// Bytes behind the end, in the spare capacity, are not the reader's.
func TestReadSpareBytes(t *testing.T) {
	b := rising(9)
	r := NewReader(b[:3])
	stands(t, "spare", r, 3, true, api.ErrTrail)
	if x := r.U32(); x != 0 {
		t.Errorf("U32 = %x", x)
	}
	isBad(t, "spare", r)
	if b := NewReader(b[:3]).Take(4); len(b) > 0 {
		t.Errorf("Take(4) = %x", b)
	}
}

// A list may have two readers: neither knows of the other.
func TestReadersApart(t *testing.T) {
	b := []byte("abcdef")
	one, two := NewReader(b), NewReader(b)
	one.Take(7)
	two.Take(2)
	isBad(t, "one", one)
	stands(t, "two", two, 4, true, api.ErrTrail)
	if got := two.Take(4); string(got) != "cdef" {
		t.Errorf("Take(4) = %q", got)
	}
}

// P4.2

func TestWriterZero(t *testing.T) {
	var w Writer
	holds(t, "zero value", &w, "")
	w.Put(nil)
	w.Put([]byte{})
	holds(t, "nothing put", &w, "")
	holds(t, "new", new(Writer), "")
}

func TestWriteNumbers(t *testing.T) {
	w := &Writer{}
	w.U8(0xF1)
	holds(t, "U8", w, "\xF1")
	w.U16(0x02F3)
	holds(t, "U16", w, "\xF1\x02\xF3")
	w.U32(0x04FFFE7D)
	holds(t, "U32", w, "\xF1\x02\xF3\x04\xFF\xFE\x7D")
	w.U32(1)
	w.U16(1)
	w.U8(1)
	holds(t, "ones", w, "\xF1\x02\xF3\x04\xFF\xFE\x7D\x00\x00\x00\x01\x00\x01\x01")
}

func TestWriteEnds(t *testing.T) {
	w := &Writer{}
	w.U8(0)
	w.U16(0)
	w.U32(0)
	holds(t, "lowest", w, "\x00\x00\x00\x00\x00\x00\x00")
	w.U8(1<<8 - 1)
	w.U16(1<<16 - 1)
	w.U32(1<<32 - 1)
	holds(t, "highest", w, "\x00\x00\x00\x00\x00\x00\x00\xFF\xFF\xFF\xFF\xFF\xFF\xFF")
}

func TestPut(t *testing.T) {
	w := &Writer{}
	want := ""
	for _, s := range []string{"a", "", "bcd", "\x00\xFF", string(rising(70000))} {
		w.Put([]byte(s))
		want += s
		holds(t, "put", w, want)
	}
}

// padded is how long a list of so many bytes is with zeros up to a multiple of n, worked out one by one.
func padded(length, n int) int {
	for n >= 1 && length%n != 0 {
		length++
	}
	return length
}

func TestPad(t *testing.T) {
	for length := range 20 {
		for n := -3; n <= 25; n++ {
			w := &Writer{}
			w.Put(rising(length))
			w.Pad(n)
			want := string(rising(length)) + string(make([]byte, padded(length, n)-length))
			holds(t, fmt.Sprint(length, " bytes, Pad(", n, ")"), w, want)
			w.Pad(n)
			holds(t, fmt.Sprint(length, " bytes, Pad(", n, ") twice"), w, want)
			w.U8(7)
			holds(t, fmt.Sprint(length, " bytes, Pad(", n, "), U8"), w, want+"\x07")
		}
	}
}

func TestPadMuch(t *testing.T) {
	w := &Writer{}
	w.U8(1)
	w.Pad(1200)
	holds(t, "Pad(1200)", w, "\x01"+string(make([]byte, 1199)))
	w.Pad(100000)
	holds(t, "Pad(100000)", w, "\x01"+string(make([]byte, 99999)))
}

// No zeros: for what is less than 1, for a list that is empty, and where no memory would do.
func TestPadNone(t *testing.T) {
	for _, n := range []int{0, -1, -4, -1 << 31, -1 << 63, 1<<63 - 1, 1 << 62} {
		empty, one := &Writer{}, &Writer{}
		one.U8(9)
		empty.Pad(n)
		one.Pad(n)
		holds(t, fmt.Sprint("Pad(", n, ") of none"), empty, "")
		holds(t, fmt.Sprint("Pad(", n, ") of one"), one, "\x09")
	}
	empty := &Writer{}
	empty.Pad(1<<31 - 1)
	empty.Pad(4)
	holds(t, "Pad of none", empty, "")
}

// Zeros are appended, whatever was in the writer's memory before.
func TestPadZeros(t *testing.T) {
	for n := range 100 {
		w := &Writer{}
		w.Put(bytes.Repeat([]byte{0xFF}, n+1))
		w.Pad(64)
		got := w.Out()
		if len(got)%64 != 0 || bytes.Count(got, []byte{0}) != len(got)-n-1 {
			t.Errorf("%d bytes padded: %x", n+1, got)
		}
	}
}

// P4.3

func TestReadBack(t *testing.T) {
	for seed := range int64(200) {
		r := rand.New(rand.NewSource(seed))
		w := &Writer{}
		var checks []func(r *Reader) string
		note := func(name string, want, got any) string {
			if fmt.Sprint(want) == fmt.Sprint(got) {
				return ""
			}
			return fmt.Sprint(name, " = ", got, ", want ", want)
		}
		for range 60 {
			v := r.Uint32() >> r.Intn(32)
			switch r.Intn(5) {
			case 0:
				w.U8(uint8(v))
				checks = append(checks, func(r *Reader) string { return note("U8", uint8(v), r.U8()) })
			case 1:
				w.U16(uint16(v))
				checks = append(checks, func(r *Reader) string { return note("U16", uint16(v), r.U16()) })
			case 2:
				w.U32(v)
				checks = append(checks, func(r *Reader) string { return note("U32", v, r.U32()) })
			case 3:
				b := make([]byte, r.Intn(40))
				r.Read(b)
				w.Put(b)
				checks = append(checks, func(r *Reader) string { return note("Take", b, r.Take(len(b))) })
			case 4:
				before := w.Len()
				w.Pad(r.Intn(9))
				zeros := make([]byte, w.Len()-before)
				checks = append(checks, func(r *Reader) string { return note("padding", zeros, r.Take(len(zeros))) })
			}
		}
		back := NewReader(w.Out())
		for i, check := range checks {
			if s := check(back); s != "" {
				t.Fatalf("run %d, %d: %s", seed, i, s)
			}
		}
		stands(t, fmt.Sprint("run ", seed), back, 0, true, api.OK)
	}
}

// All numbers of 8 and 16 bits, and those of 32 with one bit, or all up to one.
func TestReadBackNumbers(t *testing.T) {
	w := &Writer{}
	for v := range 1 << 16 {
		w.U8(uint8(v))
		w.U16(uint16(v))
		w.U32(1 << (v % 32))
		w.U32(1<<(v%33) - 1)
	}
	r := NewReader(w.Out())
	for v := range 1 << 16 {
		if r.U8() != uint8(v) || r.U16() != uint16(v) || r.U32() != 1<<(v%32) || r.U32() != 1<<(v%33)-1 {
			t.Fatalf("%d is not read back", v)
		}
	}
	stands(t, "numbers", r, 0, true, api.OK)
}

// fill all memory of a list, its spare capacity too.
func fill(b []byte) {
	whole := b[:cap(b)]
	for i := range whole {
		whole[i] = 0xEE
	}
}

// The list of a reader is neither changed nor kept, and what is taken is new memory.
func TestReaderIsNew(t *testing.T) {
	b := append(make([]byte, 0, 64), "abcdefgh"...)
	r := NewReader(b)
	first := r.Take(2)
	fill(first)
	second := r.Take(3)
	if string(second) != "cde" {
		t.Errorf("Take(3) = %q, after what was taken before was written to", second)
	}
	if string(b) != "abcdefgh" || !bytes.Equal(b[:64][8:], make([]byte, 56)) {
		t.Errorf("the list became %q", b[:64])
	}
	fill(b)
	if string(second) != "cde" {
		t.Errorf("what was taken became %q", second)
	}
	if got := r.Take(3); string(got) != "fgh" {
		t.Errorf("Take(3) = %q, after the list was written to", got)
	}
}

// What is put is neither changed nor kept, and what Out returns is new memory.
func TestWriterIsNew(t *testing.T) {
	b := append(make([]byte, 0, 64), "abcd"...)
	w := &Writer{}
	w.Put(b)
	w.U8('e')
	w.Put(b[:2])
	w.Pad(8)
	if string(b) != "abcd" || !bytes.Equal(b[:64][4:], make([]byte, 60)) {
		t.Errorf("the list became %q", b[:64])
	}
	fill(b)
	holds(t, "list written to", w, "abcdeab\x00")
	first, second := w.Out(), w.Out()
	want := slices.Clone(second)
	fill(first)
	holds(t, "Out written to", w, "abcdeab\x00")
	if !bytes.Equal(second, want) {
		t.Errorf("a second Out became %q", second)
	}
	w.U32(1<<32 - 1)
	w.Pad(16)
	if string(first[:cap(first)]) != string(bytes.Repeat([]byte{0xEE}, cap(first))) {
		t.Errorf("an earlier Out became %q", first[:cap(first)])
	}
	if !bytes.Equal(second, want) {
		t.Errorf("an earlier Out became %q", second)
	}
}

// A writer may put what it wrote itself.
func TestPutOwn(t *testing.T) {
	w := &Writer{}
	w.Put([]byte("abc"))
	for range 3 {
		w.Put(w.Out())
	}
	holds(t, "own", w, "abcabcabcabcabcabcabcabc")
}
