package frame

import (
	"encoding/binary"
	"fmt"
	"math"
	"math/rand"
	"slices"
	"strings"
	"testing"

	"roadbook/api"
)

// limit is how many bytes a datagram has at most, and room how many its body
// has.
const (
	limit = 65535
	room  = 65531
)

// fills are bytes of which texts of any size are made; some look like heads of
// datagrams, and of TLVs.
var fills = []string{"\x00", "\x01", "\x2a\x02\x00\x00", "\x2a", "\x02", "\x01\x00", "\x00\x01", "a", "\x7f", "\x80", "é", "\xff"}

// bases are places at which bytes may begin.
var bases = []int{0, 1, 4, 5, 65535, 1<<31 - 1, 1 << 31, 1<<40 - 1, 1 << 40}

// rightTypes are types whose TLVs have data, wrongTypes such as there are not:
// their last bytes alone would do for most of them.
var (
	rightTypes = []int{1, 2, 3, 4, 127, 128, 254, 255}
	wrongTypes = []int{
		0, -1, -2, -128, -254, -255, -256, -257, -65535, -1 << 31, -1<<32 + 1, -1 << 56, math.MinInt + 1, math.MinInt,
		256, 257, 258, 511, 512, 65535, 65536, 65537, 1<<31 - 1, 1 << 31, 1 << 32, 1<<32 + 1, 1 << 56, math.MaxInt - 1, math.MaxInt,
	}
)

// rightSizes are how many bytes data may have, wrongSizes how many it may not.
var (
	rightSizes = []int{0, 1, 2, 3, 42, 127, 128, 253, 254, 255}
	wrongSizes = []int{256, 257, 258, 300, 511, 512, 65535, 65536, 65537, 1 << 20}
)

// bodySizes are how many bytes a body may have.
var bodySizes = []int{0, 1, 2, 3, 4, 5, 41, 42, 43, 254, 255, 256, 257, 511, 512, 65280, 65529, 65530, 65531}

// long is a text of n bytes, made of fill.
func long(fill string, n int) string {
	return strings.Repeat(fill, n/len(fill)+1)[:n]
}

// counted is n bytes, each another than the one next to it.
func counted(n int) string {
	b := make([]byte, n)
	for i := range b {
		b[i] = byte(i + i>>8 + 1)
	}
	return string(b)
}

// someBytes are n bytes.
func someBytes(r *rand.Rand, n int) string {
	b := make([]byte, n)
	r.Read(b)
	return string(b)
}

// withByte is b with that byte at that place.
func withByte(b string, at int, value byte) string {
	return b[:at] + string([]byte{value}) + b[at+1:]
}

// headed is those first two bytes, a length, and what stands behind it, laid by
// means of their own.
func headed(first, second byte, size int, rest string) string {
	return string(binary.BigEndian.AppendUint16([]byte{first, second}, uint16(size))) + rest
}

// wrapped is the datagram of body, with that trailer.
func wrapped(body, trailer string) string {
	return headed(42, 2, len(body), body+trailer)
}

// spelled is the bytes of the TLVs of l, of which each may be.
func spelled(l []api.Tlv) string {
	var b []byte
	for _, v := range l {
		if v.Type == 0 {
			b = append(b, 0)
			continue
		}
		b = append(b, byte(v.Type), byte(len(v.Data)))
		b = append(b, v.Data...)
	}
	return string(b)
}

// placed is the TLVs of l, each where it begins, the first one at base.
func placed(l []api.Tlv, base int) []api.Tlv {
	var all []api.Tlv
	for i, v := range l {
		v.At = base + len(spelled(l[:i]))
		all = append(all, v)
	}
	return all
}

// begins is where each TLV of l begins in their bytes, and where they end.
func begins(l []api.Tlv) []int {
	places := []int{0}
	for i := range l {
		places = append(places, len(spelled(l[:i+1])))
	}
	return places
}

// sized is the TLV of that type whose data have n bytes.
func sized(typ, n int) api.Tlv { return api.Tlv{Type: typ, Data: counted(n)} }

// lists are lists of TLVs, whose places are not looked at.
func lists() [][]api.Tlv {
	lone, plain := api.Tlv{}, api.Tlv{Type: 3, Data: "ab"}
	all := [][]api.Tlv{
		nil,
		{lone},
		{lone, lone},
		{lone, lone, lone},
		{plain},
		{plain, plain},
		{lone, plain},
		{plain, lone},
		{lone, plain, lone},
		{plain, lone, plain},
		{lone, lone, plain, lone, lone, lone, plain, plain, lone, lone},
		{{Type: 1}, {Type: 1, Data: "\x00\x00"}, lone, {Type: 1, Data: "\x01\x00"}},
		{{Type: 1, Data: "\x00"}, lone, {Type: 255, Data: "\xff\xff\xff"}},
		{sized(255, 255), lone, sized(1, 255), sized(2, 0), sized(2, 254), sized(9, 1)},
		slices.Repeat([]api.Tlv{lone}, 300),
		slices.Repeat([]api.Tlv{{Type: 200}}, 300),
		slices.Repeat([]api.Tlv{sized(7, 255)}, 20),
		slices.Repeat([]api.Tlv{lone, sized(7, 3), lone, lone}, 60),
	}
	for _, typ := range rightTypes {
		for _, size := range rightSizes {
			all = append(all, []api.Tlv{sized(typ, size)}, []api.Tlv{lone, sized(typ, size), lone, plain})
		}
	}
	return all
}

// someList is n TLVs at most, of any types and sizes.
func someList(r *rand.Rand, n int) []api.Tlv {
	var l []api.Tlv
	for range r.Intn(n + 1) {
		size := r.Intn(6)
		if r.Intn(8) == 0 {
			size = r.Intn(256)
		}
		v := api.Tlv{}
		if r.Intn(3) > 0 {
			v = api.Tlv{Type: 1 + r.Intn(255), Data: someBytes(r, size)}
		}
		l = append(l, v)
	}
	return l
}

// sketch is how many TLVs l has, and the first ones, each by its type, its
// place, and how many bytes its data have.
func sketch(l []api.Tlv) string {
	var parts []string
	for _, v := range l[:min(len(l), 5)] {
		parts = append(parts, fmt.Sprintf("%d@%d:%d", v.Type, v.At, len(v.Data)))
	}
	return fmt.Sprintf("%d TLVs (%s)", len(l), strings.Join(parts, " "))
}

// checkBody holds b to be a datagram of that body and that trailer.
func checkBody(t *testing.T, b, body, trailer string) {
	t.Helper()
	got, at, err := Body(b)
	if got != body || at != 0 || err != api.OK {
		t.Errorf("Body of %d bytes, %.60q, = %d bytes, %.60q, at %d, error %d; want %d, %.60q", len(b), b, len(got), got, at, err, len(body), body)
	}
	if got := Trailer(b); got != trailer {
		t.Errorf("Trailer of %d bytes, %.60q, = %d bytes, %.60q; want %d, %.60q", len(b), b, len(got), got, len(trailer), trailer)
	}
}

// checkNoBody holds b to be no datagram, by that error at that place.
func checkNoBody(t *testing.T, b string, wantAt int, want api.Errno) {
	t.Helper()
	got, at, err := Body(b)
	if got != "" || at != wantAt || err != want {
		t.Errorf("Body of %d bytes, %.60q, = %d bytes, %.60q, at %d, error %d; want none, at %d, error %d", len(b), b, len(got), got, at, err, wantAt, want)
	}
}

// checkBytes holds b to be what the chapter's words make of it, one by one.
func checkBytes(t *testing.T, b string) {
	t.Helper()
	if len(b) > limit {
		checkNoBody(t, b, limit, api.ErrLong)
		return
	}
	if len(b) < 4 {
		checkNoBody(t, b, len(b), api.ErrShort)
		return
	}
	size := int(binary.BigEndian.Uint16([]byte(b[2:4])))
	switch {
	case b[0] != 42:
		checkNoBody(t, b, 0, api.ErrKind)
	case b[1] != 2:
		checkNoBody(t, b, 1, api.ErrKind)
	case len(b)-4 < size:
		checkNoBody(t, b, len(b), api.ErrShort)
	default:
		checkBody(t, b, b[4:4+size], b[4+size:])
	}
}

// checkSplit holds s to be the bytes of these TLVs, at each base.
func checkSplit(t *testing.T, s string, want []api.Tlv) {
	t.Helper()
	for _, base := range bases {
		l, at, err := Split(s, base)
		if wanted := placed(want, base); !slices.Equal(l, wanted) || at != 0 || err != api.OK {
			t.Errorf("Split of %d bytes, %.60q, at %d = %s, at %d, error %d; want %s", len(s), s, base, sketch(l), at, err, sketch(wanted))
		}
	}
}

// checkShort holds s to be no TLVs, at each base, since the one that begins at
// want isn't all there.
func checkShort(t *testing.T, s string, want int) {
	t.Helper()
	for _, base := range bases {
		l, at, err := Split(s, base)
		if len(l) != 0 || at != base+want || err != api.ErrShort {
			t.Errorf("Split of %d bytes, %.60q, at %d = %s, at %d, error %d; want none, at %d", len(s), s, base, sketch(l), at, err, base+want)
		}
	}
}

// checkPut holds a TLV to have these bytes.
func checkPut(t *testing.T, typ int, data, want string) {
	t.Helper()
	if got, ok := Put(typ, data); got != want || !ok {
		t.Errorf("Put(%d, %.60q) = %d bytes, %.60q, %t; want %d, %.60q", typ, data, len(got), got, ok, len(want), want)
	}
}

// checkNoPut holds a TLV to have no bytes at all.
func checkNoPut(t *testing.T, typ int, data string) {
	t.Helper()
	if got, ok := Put(typ, data); got != "" || ok {
		t.Errorf("Put(%d, %d bytes) = %d bytes, %.60q, %t; want nothing", typ, len(data), len(got), got, ok)
	}
}

// checkWrap holds body to have that datagram.
func checkWrap(t *testing.T, body, want string) {
	t.Helper()
	if got, ok := Wrap(body); got != want || !ok {
		t.Errorf("Wrap of %d bytes = %d bytes, %.60q, %t; want %d, %.60q", len(body), len(got), got, ok, len(want), want)
	}
}

// checkNoWrap holds body to have no datagram.
func checkNoWrap(t *testing.T, body string) {
	t.Helper()
	if got, ok := Wrap(body); got != "" || ok {
		t.Errorf("Wrap of %d bytes = %d bytes, %.60q, %t; want nothing", len(body), len(got), got, ok)
	}
}
