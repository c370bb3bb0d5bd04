package param

import (
	"bytes"
	"fmt"
	"math/rand"
	"slices"
	"testing"

	"flume/api"
)

func rising(n int) []byte {
	b := make([]byte, n)
	for i := range b {
		b[i] = byte(i + 1)
	}
	return b
}

func same(a, b []api.Param) bool {
	return slices.EqualFunc(a, b, func(x, y api.Param) bool {
		return x.Kind == y.Kind && bytes.Equal(x.Value, y.Value)
	})
}

// gives: does Get return these parameters, and Put the bytes again?
func gives(t *testing.T, b string, want ...api.Param) {
	t.Helper()
	ps, err := Get([]byte(b))
	if err != api.OK || !same(ps, want) {
		t.Errorf("Get(%.40q) = %.80v, %v, want %.80v", b, ps, err, want)
	}
	back, err := Put(want...)
	if err != api.OK || string(back) != b {
		t.Errorf("Put(%.80v) = %.40q, %v, want %.40q", want, back, err, b)
	}
}

// refuses: does Get return none, and this error?
func refuses(t *testing.T, b string, want api.Errno) {
	t.Helper()
	if ps, err := Get([]byte(b)); err != want || len(ps) > 0 {
		t.Errorf("Get(%.40q) = %.80v, %v, want none, %v", b, ps, err, want)
	}
}

// encoded is one parameter as the chapter tells it, byte by byte.
func encoded(p api.Param) []byte {
	n := len(p.Value) + 4
	b := []byte{byte(p.Kind / 256), byte(p.Kind % 256), byte(n / 256), byte(n % 256)}
	b = append(b, p.Value...)
	for len(b)%4 != 0 {
		b = append(b, 0)
	}
	return b
}

// decoded are the parameters of bytes as the chapter tells it, by offsets.
func decoded(b []byte) ([]api.Param, api.Errno) {
	var ps []api.Param
	for at := 0; at != len(b); {
		if len(b)-at < 4 {
			return nil, api.ErrShort
		}
		length := int(b[at+2])*256 + int(b[at+3])
		if length < 4 {
			return nil, api.ErrForm
		}
		end := at + length
		for end%4 != 0 {
			end++
		}
		if end > len(b) {
			return nil, api.ErrShort
		}
		for _, x := range b[at+length : end] {
			if x != 0 {
				return nil, api.ErrForm
			}
		}
		ps = append(ps, api.Param{Kind: uint16(b[at])*256 + uint16(b[at+1]), Value: b[at+4 : at+length]})
		at = end
	}
	return ps, api.OK
}

// agrees: does Get return what decoded does, and does Put reverse it?
func agrees(t *testing.T, b []byte) {
	t.Helper()
	ps, err := Get(b)
	want, wantErr := decoded(b)
	if err != wantErr || !same(ps, want) {
		t.Fatalf("Get(%x) = %v, %v, want %v, %v", b, ps, err, want, wantErr)
	}
	if err != api.OK {
		return
	}
	if back, err := Put(ps...); err != api.OK || !bytes.Equal(back, b) {
		t.Fatalf("Put(Get(%x)) = %x, %v", b, back, err)
	}
}

// some parameters: kinds and lengths of all sizes, often the same ones again.
func some(r *rand.Rand) []api.Param {
	ps := make([]api.Param, r.Intn(8))
	for i := range ps {
		ps[i].Kind = uint16(r.Uint32()) >> r.Intn(16)
		ps[i].Value = make([]byte, r.Intn(1<<r.Intn(8)))
		r.Read(ps[i].Value)
	}
	return ps
}

// The chapter's examples

func TestExamples(t *testing.T) {
	gives(t, "\x00\x08\x00\x06ab\x00\x00", api.Param{Kind: 8, Value: []byte("ab")})
	refuses(t, "\x00\x08\x00\x03", api.ErrForm)
	refuses(t, "\x00\x08\x00\x06ab", api.ErrShort)
}

// P5.1

func TestPutNone(t *testing.T) {
	for _, ps := range [][]api.Param{nil, {}} {
		if b, err := Put(ps...); err != api.OK || len(b) > 0 {
			t.Errorf("Put of none = %x, %v", b, err)
		}
	}
	if b, err := Put(); err != api.OK || len(b) > 0 {
		t.Errorf("Put() = %x, %v", b, err)
	}
}

func TestPutEmptyValue(t *testing.T) {
	for _, v := range [][]byte{nil, {}} {
		if b, err := Put(api.Param{Kind: 7, Value: v}); err != api.OK || string(b) != "\x00\x07\x00\x04" {
			t.Errorf("Put of an empty value = %x, %v", b, err)
		}
	}
	if b, err := Put(api.Param{}); err != api.OK || string(b) != "\x00\x00\x00\x04" {
		t.Errorf("Put of the zero value = %x, %v", b, err)
	}
}

func TestPutKinds(t *testing.T) {
	for kind := range 1 << 16 {
		p := api.Param{Kind: uint16(kind), Value: []byte{9}}
		want := []byte{byte(kind >> 8), byte(kind), 0, 5, 9, 0, 0, 0}
		if b, err := Put(p); err != api.OK || !bytes.Equal(b, want) {
			t.Fatalf("Put of kind %d = %x, %v, want %x", kind, b, err, want)
		}
	}
}

// Each length of a value, up to the longest: its head, and its zeros.
func TestPutLengths(t *testing.T) {
	whole := rising(65531)
	lengths := []int{255, 256, 1196, 32763, 32764, 65527, 65528, 65529, 65530, 65531}
	for n := range 300 {
		lengths = append(lengths, n)
	}
	for _, n := range lengths {
		p := api.Param{Kind: 0x8102, Value: whole[:n]}
		b, err := Put(p)
		if err != api.OK || !bytes.Equal(b, encoded(p)) {
			t.Errorf("Put of %d bytes = %d bytes, %v", n, len(b), err)
		}
		if len(b)%4 != 0 || len(b) < n+4 || len(b) > n+7 {
			t.Errorf("Put of %d bytes = %d bytes", n, len(b))
		}
	}
}

func TestPutMany(t *testing.T) {
	gives(t, "\x00\x08\x00\x06ab\x00\x00\x01\x02\x00\x04\x00\x09\x00\x08wxyz\xFF\xFF\x00\x05\x00\x00\x00\x00\x00\x08\x00\x07ABC\x00",
		api.Param{Kind: 8, Value: []byte("ab")},
		api.Param{Kind: 258},
		api.Param{Kind: 9, Value: []byte("wxyz")},
		api.Param{Kind: 65535, Value: []byte{0}},
		api.Param{Kind: 8, Value: []byte("ABC")})
}

// Values that are too long, by one and by much, so that their length would go round.
func TestPutLong(t *testing.T) {
	whole := make([]byte, 1<<17+9)
	short := api.Param{Kind: 1, Value: []byte("abcd")}
	for _, n := range []int{65532, 65533, 65534, 65535, 65536, 65540, 1 << 17, 1<<17 + 9} {
		long := api.Param{Kind: 2, Value: whole[:n]}
		for _, ps := range [][]api.Param{{long}, {long, short}, {short, long}, {short, long, short}, {long, long}} {
			if b, err := Put(ps...); err != api.ErrLong || len(b) > 0 {
				t.Errorf("Put of %d bytes, one of %d = %d bytes, %v", n, len(ps), len(b), err)
			}
		}
	}
}

// Only a single value can be too long, not all of them.
func TestPutLongTogether(t *testing.T) {
	p := api.Param{Kind: 3, Value: rising(65531)}
	b, err := Put(p, p, p)
	if want := bytes.Repeat(encoded(p), 3); err != api.OK || !bytes.Equal(b, want) {
		t.Errorf("Put of three = %d bytes, %v, want %d", len(b), err, len(want))
	}
}

// P5.2

func TestGetNone(t *testing.T) {
	for _, b := range [][]byte{nil, {}} {
		if ps, err := Get(b); err != api.OK || len(ps) > 0 {
			t.Errorf("Get of none = %v, %v", ps, err)
		}
	}
}

func TestGetLongest(t *testing.T) {
	p := api.Param{Kind: 4, Value: rising(65531)}
	gives(t, string(encoded(p)), p)
	gives(t, string(encoded(p))+"\x00\x05\x00\x04", p, api.Param{Kind: 5})
}

// Fewer than four bytes are left: whatever they are.
func TestGetShortHead(t *testing.T) {
	for _, s := range []string{"\x00", "\xFF", "\x00\x00", "\x00\x08", "\x00\x08\x00", "\x00\x00\x00", "\xFF\xFF\xFF"} {
		refuses(t, s, api.ErrShort)
		refuses(t, "\x00\x08\x00\x04"+s, api.ErrShort)
		refuses(t, "\x00\x08\x00\x06ab\x00\x00"+s, api.ErrShort)
	}
}

// A length that does not count the head, whatever follows it.
func TestGetLowLength(t *testing.T) {
	for n := range byte(4) {
		for _, tail := range []string{"", "a", "\x00\x00\x00\x00", "\x00\x08\x00\x04", "abcdefgh"} {
			refuses(t, "\x00\x08\x00"+string(rune(n))+tail, api.ErrForm)
			refuses(t, "\x00\x08\x00\x05a\x00\x00\x00\x00\x09\x00"+string(rune(n))+tail, api.ErrForm)
		}
	}
}

// The value, or its zeros, end too early: by one byte at least, even where a byte of the padding is not zero.
func TestGetShort(t *testing.T) {
	for n := range 13 {
		whole := encoded(api.Param{Kind: 8, Value: rising(n)})
		for end := 1; end < len(whole); end++ {
			refuses(t, string(whole[:end]), api.ErrShort)
		}
	}
	refuses(t, "\x00\x08\x00\x05a\x01", api.ErrShort)
	refuses(t, "\x00\x08\x00\x05a\x01\x01", api.ErrShort)
	refuses(t, "\x00\x08\x00\x06a\xFF\xFF", api.ErrShort)
	refuses(t, "\x00\x08\xFF\xFFa", api.ErrShort)
	refuses(t, "\x00\x08\xFF\xFF"+string(make([]byte, 65531)), api.ErrShort)
	refuses(t, "\x00\x08\xFF\xFF"+string(make([]byte, 65530)), api.ErrShort)
}

// Bytes behind the end, in the spare capacity, are not of the list.
func TestGetSpareBytes(t *testing.T) {
	whole := encoded(api.Param{Kind: 8, Value: []byte("abcde")})
	for _, end := range []int{1, 3, 4, 8, 9, 11} {
		if ps, err := Get(whole[:end]); err != api.ErrShort || len(ps) > 0 {
			t.Errorf("Get of %d bytes = %v, %v", end, ps, err)
		}
	}
}

// Each bit of each byte of the padding.
func TestGetPadding(t *testing.T) {
	for n := range 13 {
		whole := encoded(api.Param{Kind: 8, Value: rising(n)})
		for at := 4 + n; at < len(whole); at++ {
			for bit := range 8 {
				wrong := slices.Clone(whole)
				wrong[at] = 1 << bit
				refuses(t, string(wrong), api.ErrForm)
				refuses(t, string(wrong)+"\x00\x08\x00\x04", api.ErrForm)
				refuses(t, "\x00\x08\x00\x04"+string(wrong), api.ErrForm)
			}
		}
	}
}

// The bytes of a value are its own: zeros at its end, and what looks like a parameter.
func TestGetValues(t *testing.T) {
	gives(t, "\x00\x08\x00\x08\x00\x00\x00\x00", api.Param{Kind: 8, Value: make([]byte, 4)})
	gives(t, "\x00\x08\x00\x07a\x00\x00\x00", api.Param{Kind: 8, Value: []byte("a\x00\x00")})
	gives(t, "\x00\x08\x00\x05\x00\x00\x00\x00", api.Param{Kind: 8, Value: []byte{0}})
	inner := "\x00\x09\x00\x05a\x00\x00\x00"
	gives(t, "\x00\x08\x00\x0C"+inner, api.Param{Kind: 8, Value: []byte(inner)})
}

// Of several errors, the one that is first in the list: those before it are right, and those after it don't count.
func TestGetFirstError(t *testing.T) {
	right := "\x00\x08\x00\x06ab\x00\x00"
	low, padding, short := "\x00\x08\x00\x03", "\x00\x08\x00\x05a\x00\x01\x00", "\x00\x08\x00\x07ab"
	for _, before := range []string{"", right, right + right} {
		refuses(t, before+low+padding, api.ErrForm)
		refuses(t, before+low+short, api.ErrForm)
		refuses(t, before+padding+short, api.ErrForm)
		refuses(t, before+padding+"\x00", api.ErrForm)
		refuses(t, before+right+short, api.ErrShort)
		refuses(t, before+low+"\x00\x00", api.ErrForm)
		// A value that takes in the wrong one behind it, but not all of its own padding.
		refuses(t, before+"\x00\x08\x00\x0A"+low+"a", api.ErrShort)
	}
}

// All lists of up to nine bytes, of bytes that matter.
func TestGetAll(t *testing.T) {
	var walk func(b []byte)
	walk = func(b []byte) {
		agrees(t, b)
		if len(b) == 9 {
			return
		}
		values := []byte{0, 1, 5}
		if len(b)%4 == 3 {
			values = []byte{0, 3, 4, 5, 6, 7, 8, 9}
		}
		for _, x := range values {
			walk(append(b, x))
		}
	}
	walk(make([]byte, 0, 9))
}

// P5.2: Get reverses Put, and each list has one encoding.

func TestGetReversesPut(t *testing.T) {
	for seed := range int64(2000) {
		ps := some(rand.New(rand.NewSource(seed)))
		var want []byte
		for _, p := range ps {
			want = append(want, encoded(p)...)
		}
		gives(t, string(want), ps...)
	}
}

// Lists with a byte changed, cut off, or appended: none is another encoding of what it was.
func TestOneEncoding(t *testing.T) {
	for seed := range int64(2000) {
		r := rand.New(rand.NewSource(seed))
		ps := some(r)
		b, err := Put(ps...)
		if err != api.OK {
			t.Fatalf("run %d: %v", seed, err)
		}
		for range 20 {
			other := append(slices.Clone(b), make([]byte, r.Intn(3)*r.Intn(9))...)
			other = other[:len(other)-r.Intn(2)*r.Intn(len(other)+1)]
			for range r.Intn(3) {
				if len(other) > 0 {
					other[r.Intn(len(other))] ^= 1 << r.Intn(8)
				}
			}
			agrees(t, other)
			if got, err := Get(other); err == api.OK && same(got, ps) && !bytes.Equal(other, b) {
				t.Fatalf("run %d: %x and %x are both %v", seed, b, other, ps)
			}
		}
	}
}

// P5.3

func TestFind(t *testing.T) {
	ps := []api.Param{
		{Kind: 8, Value: []byte("ab")},
		{Kind: 258},
		{Kind: 9, Value: []byte("first")},
		{Kind: 0, Value: []byte("zero")},
		{Kind: 9, Value: []byte("second")},
		{Kind: 65535, Value: []byte("last")},
		{Kind: 258, Value: []byte("behind an empty one")},
	}
	for _, x := range []struct {
		kind uint16
		want string
		ok   bool
	}{
		{8, "ab", true}, {9, "first", true}, {0, "zero", true}, {65535, "last", true},
		// An empty value is found too, and is not passed over for another one.
		{258, "", true},
		{1, "", false}, {2, "", false}, {7, "", false}, {10, "", false}, {257, "", false}, {264, "", false}, {65534, "", false},
	} {
		if v, ok := Find(ps, x.kind); ok != x.ok || string(v) != x.want {
			t.Errorf("Find(%d) = %q, %v, want %q, %v", x.kind, v, ok, x.want, x.ok)
		}
	}
}

func TestFindNone(t *testing.T) {
	for _, ps := range [][]api.Param{nil, {}, {{Kind: 1, Value: []byte("a")}}} {
		for _, kind := range []uint16{0, 2, 65535} {
			if v, ok := Find(ps, kind); ok || len(v) > 0 {
				t.Errorf("Find(%v, %d) = %q, %v", ps, kind, v, ok)
			}
		}
	}
}

// Find is of any list, also of one that Put refuses.
func TestFindLong(t *testing.T) {
	long := rising(70000)
	if v, ok := Find([]api.Param{{Kind: 1}, {Kind: 2, Value: long}}, 2); !ok || !bytes.Equal(v, long) {
		t.Errorf("Find = %d bytes, %v", len(v), ok)
	}
}

// Arguments and results

// fill all memory of a list, its spare capacity too.
func fill(b []byte) {
	whole := b[:cap(b)]
	for i := range whole {
		whole[i] = 0xEE
	}
}

// roomy are the bytes with spare capacity, in which other bytes stand.
func roomy(s string) []byte {
	b := append(make([]byte, 0, len(s)+40), s...)
	whole := b[:cap(b)]
	for i := len(s); i < len(whole); i++ {
		whole[i] = 0x77
	}
	return b
}

// untouched: are the bytes still as roomy made them?
func untouched(t *testing.T, name string, b []byte, s string) {
	t.Helper()
	if want := roomy(s); !bytes.Equal(b[:cap(b)], want[:cap(want)]) {
		t.Errorf("%s: the list became %x", name, b[:cap(b)])
	}
}

func TestPutIsNew(t *testing.T) {
	v, w := roomy("abcde"), roomy("")
	ps := []api.Param{{Kind: 8, Value: v}, {Kind: 9, Value: w}, {Kind: 10, Value: v[:2]}, {Kind: 11, Value: []byte("not put")}}
	first, _ := Put(ps[:3]...)
	second, _ := Put(ps[:3]...)
	want := string(second)
	untouched(t, "put", v, "abcde")
	untouched(t, "put", w, "")
	if len(ps[0].Value) != 5 || len(ps[1].Value) != 0 || len(ps[2].Value) != 2 || string(ps[3].Value) != "not put" {
		t.Errorf("the parameters became %v", ps)
	}
	fill(first)
	untouched(t, "bytes written to", v, "abcde")
	untouched(t, "bytes written to", w, "")
	fill(v)
	if string(second) != want {
		t.Errorf("the bytes became %x, want %x", second, want)
	}
}

func TestGetIsNew(t *testing.T) {
	s := "\x00\x08\x00\x06ab\x00\x00\x00\x09\x00\x04\x00\x0A\x00\x08wxyz\x00\x0B\x00\x05c\x00\x00\x00"
	values := []string{"ab", "", "wxyz", "c"}
	b := roomy(s)
	ps, err := Get(b)
	if err != api.OK || len(ps) != len(values) {
		t.Fatalf("Get = %v, %v", ps, err)
	}
	untouched(t, "got", b, s)
	// Written to one by one: neither the list nor the others have a part of it.
	for i, p := range ps {
		fill(p.Value)
		untouched(t, fmt.Sprint("value ", i, " written to"), b, s)
		for k, q := range ps[i+1:] {
			if string(q.Value) != values[i+1+k] {
				t.Errorf("value %d became %q, with %d written to", i+1+k, q.Value, i)
			}
		}
	}
	ps, _ = Get(b)
	fill(b)
	for i, p := range ps {
		if string(p.Value) != values[i] {
			t.Errorf("value %d became %q, with the list written to", i, p.Value)
		}
	}
	again, _ := Get(roomy(s))
	other, _ := Get(roomy(s))
	for i := range again {
		fill(again[i].Value)
		again[i] = api.Param{Kind: 99}
	}
	for i := range other {
		if other[i].Kind != uint16(8+i) || string(other[i].Value) != values[i] {
			t.Errorf("parameter %d of another call became %v", i, other[i])
		}
	}
}

func TestFindIsNew(t *testing.T) {
	v := roomy("abcde")
	ps := []api.Param{{Kind: 8, Value: v[:0]}, {Kind: 9, Value: v}}
	for _, kind := range []uint16{8, 9} {
		first, _ := Find(ps, kind)
		second, _ := Find(ps, kind)
		want := string(second)
		fill(first)
		untouched(t, "found", v, "abcde")
		if string(second) != want {
			t.Errorf("a second result became %q", second)
		}
	}
	found, _ := Find(ps, 9)
	fill(v)
	if string(found) != "abcde" {
		t.Errorf("the result became %q, with the value written to", found)
	}
	if ps[0].Kind != 8 || len(ps[0].Value) != 0 || ps[1].Kind != 9 || len(ps[1].Value) != 5 {
		t.Errorf("the parameters became %v", ps)
	}
}
