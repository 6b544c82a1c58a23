package rerr

import (
	"encoding/binary"
	"fmt"
	"math"
	"math/rand"
	"reflect"
	"slices"
	"strings"
	"testing"

	"roadbook/api"
)

// headEnd is where the destinations begin.
const headEnd = 4

// most is the greatest number of four bytes.
const most = 1<<32 - 1

// wrongFlags are flags that may not be; the lowest bits of most alone would do.
var wrongFlags = []int{-1, -2, -3, 2, 3, 4, 127, 128, 129, 255, 256, 257, 1 << 16, 1 << 31, 1 << 32, 1<<32 + 1, 1 << 57, 1<<57 + 1}

// The numbers that a destination may have, and some that it may not.
var (
	rightSeqs = []int{0, 1, 255, 256, 65535, 65536, 1<<24 - 1, 1 << 24, 0x01020304, 1<<31 - 1, 1 << 31, 4294967294, 4294967295}
	wrongSeqs = []int{-1, -2, 4294967296, 4294967297, 1<<33 - 1, 1 << 33, 1 << 40, 1 << 56}
)

// ends are numbers that no field may be: those at the ends of their types.
var ends = []int{math.MaxInt, math.MaxInt - 1, 1 << 62, math.MinInt, math.MinInt + 1, -1 << 62, -1 << 32, -1<<31 - 1, -1 << 31, -65536, -256, -255, -128}

// plain is an error of several destinations, without extensions.
func plain() api.Msg {
	return api.Msg{Kind: api.Rerr, Flags: 1, List: []api.Dest{
		{Addr: "\x0a\x01\x02\x03", Seq: 0xa1a2a3a4}, {Addr: "\xc0\xa8\x00\x09", Seq: 0xf1f2f3f4}, {Addr: "\x0a\x01\x02\x04", Seq: 7},
	}}
}

// least is the error whose numbers are all 0, and greatest the one whose bits
// are all 1, but for those that can't be.
func least() api.Msg {
	return api.Msg{Kind: api.Rerr, List: []api.Dest{{Addr: "\x00\x00\x00\x00"}}}
}

func greatest() api.Msg {
	return api.Msg{Kind: api.Rerr, Flags: 1, List: slices.Repeat([]api.Dest{{Addr: "\xff\xff\xff\xff", Seq: most}}, 255)}
}

// heads are errors without extensions.
func heads() []api.Msg { return []api.Msg{plain(), least(), greatest()} }

// dests are n destinations, each another than the one next to it.
func dests(n int) []api.Dest {
	l := make([]api.Dest, n)
	for i := range l {
		l[i] = api.Dest{Addr: string([]byte{10, byte(i >> 8), byte(i), byte(255 - i)}), Seq: i * 0x01010101 % (most + 1)}
	}
	return l
}

// sized is the extension of that type whose Data has n bytes, each another than
// the one next to it.
func sized(kind, n int) api.Sub {
	b := make([]byte, n)
	for i := range b {
		b[i] = byte(i + 1)
	}
	return api.Sub{Type: kind, Data: string(b)}
}

// lists are lists of extensions that may be.
func lists() [][]api.Sub {
	return [][]api.Sub{
		nil,
		{},
		{{}},
		{sized(1, 4)},
		{sized(1, 0)},
		{sized(255, 255)},
		{sized(0, 255), sized(9, 0)},
		{sized(1, 4), sized(2, 0), sized(0, 1), sized(255, 7)},
		{{Type: 1, Data: "\x01\x00"}, {Type: 1, Data: "\xff\xff\xff"}},
		{sized(3, 254), sized(3, 255), sized(3, 1)},
		{sized(8, 6), sized(8, 14)},
		slices.Repeat([]api.Sub{sized(1, 4)}, 60),
		slices.Repeat([]api.Sub{{}}, 61),
		slices.Repeat([]api.Sub{sized(200, 3), sized(7, 0)}, 150),
	}
}

// messages are errors that may be, with all lists of extensions.
func messages() []api.Msg {
	var all []api.Msg
	for _, m := range append(heads(), with(plain(), "List", dests(2)), with(least(), "List", dests(254))) {
		for _, subs := range lists() {
			all = append(all, with(m, "Subs", subs))
		}
	}
	return all
}

// spelledHead is the bytes of m ahead of its extensions, laid by means of their
// own.
func spelledHead(m api.Msg) string {
	b := []byte{3, byte(m.Flags << 7), 0, byte(len(m.List))}
	for _, d := range m.List {
		b = binary.BigEndian.AppendUint32(append(b, d.Addr...), uint32(d.Seq))
	}
	return string(b)
}

// spelledSubs is the bytes of the extensions of l.
func spelledSubs(l []api.Sub) string {
	var b []byte
	for _, e := range l {
		b = append(b, byte(e.Type), byte(len(e.Data)))
		b = append(b, e.Data...)
	}
	return string(b)
}

// spelled is the bytes of m, which may be.
func spelled(m api.Msg) string { return spelledHead(m) + spelledSubs(m.Subs) }

// endOf is where the extensions of m begin.
func endOf(m api.Msg) int { return headEnd + 8*len(m.List) }

// with is m with that value in the field of that name.
func with(m api.Msg, name string, value any) api.Msg {
	reflect.ValueOf(&m).Elem().FieldByName(name).Set(reflect.ValueOf(value))
	return m
}

// withDest is m with that destination at that place of its own list.
func withDest(m api.Msg, at int, d api.Dest) api.Msg {
	m.List = slices.Clone(m.List)
	m.List[at] = d
	return m
}

// same tells whether a and b are the same in all fields, where a list that is
// nil is the same as an empty one.
func same(a, b api.Msg) bool {
	alike := slices.Equal(a.Subs, b.Subs) && slices.Equal(a.List, b.List)
	a.Subs, b.Subs, a.List, b.List = nil, nil, nil, nil
	return alike && reflect.DeepEqual(a, b)
}

// sketch is m, with its first destinations and extensions alone, so that a long
// one is told in short.
func sketch(m api.Msg) string {
	dests, subs := len(m.List), len(m.Subs)
	m.List, m.Subs = m.List[:min(dests, 4)], m.Subs[:min(subs, 4)]
	return fmt.Sprintf("%.900s, of %d destinations and %d Subs", fmt.Sprintf("%#v", m), dests, subs)
}

// checkPut holds m to be right, to have these bytes, and to be read of them.
func checkPut(t *testing.T, m api.Msg, want string) {
	t.Helper()
	if !Right(m) {
		t.Errorf("Right of %s = false", sketch(m))
	}
	if got, ok := Put(m); got != want || !ok {
		t.Errorf("Put of %s = %.99q, %t; want %.99q", sketch(m), got, ok, want)
	}
	checkGet(t, want, m)
}

// checkNoPut holds m not to be right, and to have no bytes at all.
func checkNoPut(t *testing.T, what string, m api.Msg) {
	t.Helper()
	if Right(m) {
		t.Errorf("%s: Right of %s = true", what, sketch(m))
	}
	if got, ok := Put(m); got != "" || ok {
		t.Errorf("%s: Put of %s = %.99q, %t; want nothing", what, sketch(m), got, ok)
	}
}

// checkGet holds b to be the bytes of that message.
func checkGet(t *testing.T, b string, want api.Msg) {
	t.Helper()
	m, at, err := Get(b)
	if !same(m, want) || at != 0 || err != api.OK {
		t.Errorf("Get of %d bytes, %.99q, = %s, at %d, error %d; want %s", len(b), b, sketch(m), at, err, sketch(want))
	}
}

// checkError holds b to be no message, by that error at that place.
func checkError(t *testing.T, b string, wantAt int, want api.Errno) {
	t.Helper()
	m, at, err := Get(b)
	if !same(m, api.Msg{}) || at != wantAt || err != want {
		t.Errorf("Get of %d bytes, %.99q, = %s, at %d, error %d; want nothing, at %d, error %d", len(b), b, sketch(m), at, err, wantAt, want)
	}
}

// fault is the first error of b, which begins with 3, and where it is, by means
// of their own.
func fault(b string) (int, api.Errno) {
	if len(b) < headEnd {
		return len(b), api.ErrShort
	}
	if b[1]&0x7f != 0 || b[2] != 0 {
		return 1, api.ErrZero
	}
	if b[3] == 0 {
		return 3, api.ErrCount
	}
	end := headEnd + 8*int(b[3])
	if len(b) < end {
		return len(b), api.ErrShort
	}
	for at := end; at < len(b); at += 2 + int(b[at+1]) {
		if at+2 > len(b) || at+2+int(b[at+1]) > len(b) {
			return at, api.ErrShort
		}
	}
	return 0, api.OK
}

// checkBytes holds b, if it is a message, to come back of it, and if not, to be
// nothing, by the first error and where it is.
func checkBytes(t *testing.T, b string) {
	t.Helper()
	if at, err := fault(b); err != api.OK {
		checkError(t, b, at, err)
		return
	}
	m, at, err := Get(b)
	if back, ok := Put(m); !Right(m) || !ok || back != b || spelled(m) != b || at != 0 || err != api.OK {
		t.Errorf("%d bytes, %.99q, come back of %s as %.99q, %t, at %d, error %d", len(b), b, sketch(m), back, ok, at, err)
	}
}

// someMessage is any error that may be.
func someMessage(r *rand.Rand) api.Msg {
	m := api.Msg{Kind: api.Rerr, Flags: r.Intn(2)}
	many := 1 + r.Intn(4)
	if r.Intn(8) == 0 {
		many = 1 + r.Intn(255)
	}
	for range many {
		seq := rightSeqs[r.Intn(len(rightSeqs))]
		if r.Intn(2) == 0 {
			seq = int(r.Uint32())
		}
		m.List = append(m.List, api.Dest{Addr: someBytes(r, 4), Seq: seq})
	}
	for range r.Intn(6) {
		size := r.Intn(6)
		if r.Intn(8) == 0 {
			size = r.Intn(256)
		}
		m.Subs = append(m.Subs, api.Sub{Type: r.Intn(256), Data: someBytes(r, size)})
	}
	return m
}

// someBytes are n bytes.
func someBytes(r *rand.Rand, n int) string {
	b := make([]byte, n)
	r.Read(b)
	return string(b)
}

// headed is n bytes: as many of a head with that second and third byte, and that
// count, as there is room for, and fill behind it.
func headed(second, third, count, fill byte, n int) string {
	return (string([]byte{3, second, third, count}) + strings.Repeat(string([]byte{fill}), max(n-headEnd, 0)))[:n]
}
