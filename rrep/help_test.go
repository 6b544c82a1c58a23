package rrep

import (
	"encoding/binary"
	"fmt"
	"math"
	"math/rand"
	"reflect"
	"slices"
	"strings"
	"testing"

	"roadbook/api"
)

// replyEnd and ackEnd are where the extensions of both kinds begin.
const (
	replyEnd = 20
	ackEnd   = 2
)

// most is the greatest number of four bytes.
const most = 1<<32 - 1

// numbers tells of each field of a reply that is a number how many bits there
// are for it, which ones it may be, and which ones not; the lowest bits of the
// wrong ones alone would do.
var numbers = map[string]struct {
	room         int
	right, wrong []int
}{
	"Flags": {
		2,
		[]int{0, 1, 2, 3},
		[]int{-1, -2, -3, 4, 5, 6, 7, 8, 63, 64, 128, 192, 255, 256, 257, 1 << 16, 1 << 31, 1 << 32, 1<<32 + 1, 1 << 58},
	},
	"Plen": {
		5,
		[]int{0, 1, 2, 7, 8, 15, 16, 24, 30, 31},
		[]int{-1, -2, 32, 33, 63, 64, 128, 224, 255, 256, 257, 1 << 16, 1 << 31, 1 << 32, 1<<32 + 1},
	},
	"Hops": {
		8,
		[]int{0, 1, 2, 31, 32, 127, 128, 254, 255},
		[]int{-1, -2, 256, 257, 258, 511, 512, 1 << 16, 1 << 31, 1 << 32, 1<<32 + 1},
	},
	"Seq":      {32, rightWords, wrongWords},
	"Interval": {32, rightWords, wrongWords},
}

var (
	rightWords = []int{0, 1, 255, 256, 65535, 65536, 1<<24 - 1, 1 << 24, 0x01020304, 1<<31 - 1, 1 << 31, 4294967294, 4294967295}
	wrongWords = []int{-1, -2, 4294967296, 4294967297, 1<<33 - 1, 1 << 33, 1 << 40, 1 << 56}
)

// ends are numbers that no field may be: those at the ends of their types.
var ends = []int{math.MaxInt, math.MaxInt - 1, 1 << 62, math.MinInt, math.MinInt + 1, -1 << 62, -1 << 32, -1<<31 - 1, -1 << 31, -65536, -256, -255, -32, -31, -4}

// plain is a reply whose fields are all others, without extensions.
func plain() api.Msg {
	return api.Msg{Kind: api.Rrep, Flags: 2, Plen: 21, Hops: 200, Addr: "\x0a\x01\x02\x03", Seq: 0xa1a2a3a4, Orig: "\xc0\xa8\x00\x09", Interval: 0xf1f2f3f4}
}

// least is the reply whose numbers are all 0, and greatest the one whose bits
// are all 1, but for those that can't be.
func least() api.Msg {
	return api.Msg{Kind: api.Rrep, Addr: "\x00\x00\x00\x00", Orig: "\x00\x00\x00\x00"}
}

func greatest() api.Msg {
	return api.Msg{Kind: api.Rrep, Flags: 3, Plen: 31, Hops: 255, Addr: "\xff\xff\xff\xff", Seq: most, Orig: "\xff\xff\xff\xff", Interval: most}
}

// ack is what acknowledges, without extensions.
func ack() api.Msg { return api.Msg{Kind: api.RrepAck} }

// heads are messages of both kinds, without extensions.
func heads() []api.Msg { return []api.Msg{plain(), least(), greatest(), ack()} }

// sized is the extension of that type whose Data has n bytes, each another than
// the one next to it.
func sized(kind, n int) api.Sub {
	b := make([]byte, n)
	for i := range b {
		b[i] = byte(i + 1)
	}
	return api.Sub{Type: kind, Data: string(b)}
}

// lists are lists of extensions that may be.
func lists() [][]api.Sub {
	return [][]api.Sub{
		nil,
		{},
		{{}},
		{sized(1, 4)},
		{sized(1, 0)},
		{sized(255, 255)},
		{sized(0, 255), sized(9, 0)},
		{sized(1, 4), sized(2, 0), sized(0, 1), sized(255, 7)},
		{{Type: 1, Data: "\x01\x00"}, {Type: 1, Data: "\xff\xff\xff"}},
		{sized(3, 254), sized(3, 255), sized(3, 1)},
		slices.Repeat([]api.Sub{sized(1, 4)}, 60),
		slices.Repeat([]api.Sub{{}}, 61),
		slices.Repeat([]api.Sub{sized(200, 3), sized(7, 0)}, 150),
	}
}

// listed are those messages, each with each list.
func listed(l ...api.Msg) []api.Msg {
	var all []api.Msg
	for _, m := range l {
		for _, subs := range lists() {
			all = append(all, with(m, "Subs", subs))
		}
	}
	return all
}

// replies and messages are those that may be, with all lists: replies alone,
// and both kinds.
func replies() []api.Msg { return listed(plain(), least(), greatest()) }

func messages() []api.Msg { return listed(heads()...) }

// endOf is where the extensions of a message of m's Kind begin.
func endOf(m api.Msg) int {
	if m.Kind == api.RrepAck {
		return ackEnd
	}
	return replyEnd
}

// spelledHead is the bytes of m ahead of its extensions, laid by means of their
// own.
func spelledHead(m api.Msg) string {
	if m.Kind == api.RrepAck {
		return "\x04\x00"
	}
	b := []byte{2, byte(m.Flags << 6), byte(m.Plen), byte(m.Hops)}
	b = append(b, m.Addr...)
	b = binary.BigEndian.AppendUint32(b, uint32(m.Seq))
	b = append(b, m.Orig...)
	return string(binary.BigEndian.AppendUint32(b, uint32(m.Interval)))
}

// spelledSubs is the bytes of the extensions of l.
func spelledSubs(l []api.Sub) string {
	var b []byte
	for _, e := range l {
		b = append(b, byte(e.Type), byte(len(e.Data)))
		b = append(b, e.Data...)
	}
	return string(b)
}

// spelled is the bytes of m, which may be.
func spelled(m api.Msg) string { return spelledHead(m) + spelledSubs(m.Subs) }

// with is m with that value in the field of that name.
func with(m api.Msg, name string, value any) api.Msg {
	reflect.ValueOf(&m).Elem().FieldByName(name).Set(reflect.ValueOf(value))
	return m
}

// same tells whether a and b are the same in all fields, where a list that is
// nil is the same as an empty one.
func same(a, b api.Msg) bool {
	alike := slices.Equal(a.Subs, b.Subs) && slices.Equal(a.List, b.List)
	a.Subs, b.Subs, a.List, b.List = nil, nil, nil, nil
	return alike && reflect.DeepEqual(a, b)
}

// sketch is m, with its first extensions alone, so that a long one is told in
// short.
func sketch(m api.Msg) string {
	n := len(m.Subs)
	m.Subs = m.Subs[:min(n, 4)]
	return fmt.Sprintf("%.600s, of %d Subs", fmt.Sprintf("%#v", m), n)
}

// checkPut holds m to be right, to have these bytes, and to be read of them.
func checkPut(t *testing.T, m api.Msg, want string) {
	t.Helper()
	if !Right(m) {
		t.Errorf("Right of %s = false", sketch(m))
	}
	if got, ok := Put(m); got != want || !ok {
		t.Errorf("Put of %s = %.99q, %t; want %.99q", sketch(m), got, ok, want)
	}
	checkGet(t, want, m)
}

// checkNoPut holds m not to be right, and to have no bytes at all.
func checkNoPut(t *testing.T, what string, m api.Msg) {
	t.Helper()
	if Right(m) {
		t.Errorf("%s: Right of %s = true", what, sketch(m))
	}
	if got, ok := Put(m); got != "" || ok {
		t.Errorf("%s: Put of %s = %.99q, %t; want nothing", what, sketch(m), got, ok)
	}
}

// checkGet holds b to be the bytes of that message.
func checkGet(t *testing.T, b string, want api.Msg) {
	t.Helper()
	m, at, err := Get(b)
	if !same(m, want) || at != 0 || err != api.OK {
		t.Errorf("Get of %d bytes, %.99q, = %s, at %d, error %d; want %s", len(b), b, sketch(m), at, err, sketch(want))
	}
}

// checkError holds b to be no message, by that error at that place.
func checkError(t *testing.T, b string, wantAt int, want api.Errno) {
	t.Helper()
	m, at, err := Get(b)
	if !same(m, api.Msg{}) || at != wantAt || err != want {
		t.Errorf("Get of %d bytes, %.99q, = %s, at %d, error %d; want nothing, at %d, error %d", len(b), b, sketch(m), at, err, wantAt, want)
	}
}

// fault is the first error of b, which begins with 2 or 4, and where it is, by
// means of their own.
func fault(b string) (int, api.Errno) {
	end := ackEnd
	if b[0] == 2 {
		end = replyEnd
	}
	if len(b) < end {
		return len(b), api.ErrShort
	}
	if b[0] == 2 && (b[1]&0x3f != 0 || b[2]&0xe0 != 0) || b[0] == 4 && b[1] != 0 {
		return 1, api.ErrZero
	}
	for at := end; at < len(b); at += 2 + int(b[at+1]) {
		if at+2 > len(b) || at+2+int(b[at+1]) > len(b) {
			return at, api.ErrShort
		}
	}
	return 0, api.OK
}

// checkBytes holds b, if it is a message, to come back of it, and if not, to be
// nothing, by the first error and where it is.
func checkBytes(t *testing.T, b string) {
	t.Helper()
	if at, err := fault(b); err != api.OK {
		checkError(t, b, at, err)
		return
	}
	m, at, err := Get(b)
	if back, ok := Put(m); !Right(m) || !ok || back != b || at != 0 || err != api.OK {
		t.Errorf("%d bytes, %.99q, come back of %s as %.99q, %t, at %d, error %d", len(b), b, sketch(m), back, ok, at, err)
	}
}

// someMessage is any message that may be, of either kind.
func someMessage(r *rand.Rand) api.Msg {
	word := func() int { return rightWords[r.Intn(len(rightWords))] }
	if r.Intn(2) == 0 {
		word = func() int { return int(r.Uint32()) }
	}
	m := ack()
	if r.Intn(3) != 0 {
		m = api.Msg{Kind: api.Rrep, Flags: r.Intn(4), Plen: r.Intn(32), Hops: r.Intn(256), Addr: someBytes(r, 4), Seq: word(), Orig: someBytes(r, 4), Interval: word()}
	}
	for range r.Intn(6) {
		size := r.Intn(6)
		if r.Intn(8) == 0 {
			size = r.Intn(256)
		}
		m.Subs = append(m.Subs, api.Sub{Type: r.Intn(256), Data: someBytes(r, size)})
	}
	return m
}

// someBytes are n bytes.
func someBytes(r *rand.Rand, n int) string {
	b := make([]byte, n)
	r.Read(b)
	return string(b)
}

// filled is n bytes, the first one first, all others fill.
func filled(first, fill byte, n int) string {
	return string([]byte{first}) + strings.Repeat(string([]byte{fill}), n-1)
}
