package aodv

import (
	"encoding/binary"
	"fmt"
	"math/rand"
	"reflect"
	"slices"
	"strings"
	"testing"

	"roadbook/api"
)

// most is the greatest number of four bytes, limit how many bytes a datagram has
// at most.
const (
	most  = 1<<32 - 1
	limit = 65535
)

// fields tells of each kind which fields it has; no other may be set.
var fields = map[int][]string{
	api.Rreq:    {"Flags", "Hops", "Nonce", "Addr", "Seq", "Orig", "Seq2", "Subs"},
	api.Rrep:    {"Flags", "Plen", "Hops", "Addr", "Seq", "Orig", "Interval", "Subs"},
	api.Rerr:    {"Flags", "List", "Subs"},
	api.RrepAck: {"Subs"},
}

// greatestOf tells of each kind how great each number of it may be; none may be
// below 0.
var greatestOf = map[int]map[string]int{
	api.Rreq:    {"Flags": 31, "Hops": 255, "Nonce": most, "Seq": most, "Seq2": most},
	api.Rrep:    {"Flags": 3, "Plen": 31, "Hops": 255, "Seq": most, "Interval": most},
	api.Rerr:    {"Flags": 1},
	api.RrepAck: {},
}

// The messages of the four kinds, without extensions. No field has what the one
// next to it has.
func request() api.Msg {
	return api.Msg{Kind: api.Rreq, Flags: 19, Hops: 200, Nonce: 0xb1b2b3b4, Addr: "\x0a\x01\x02\x03", Seq: 0xa1a2a3a4, Orig: "\xc0\xa8\x00\x09", Seq2: 0xf1f2f3f4}
}

func reply() api.Msg {
	return api.Msg{Kind: api.Rrep, Flags: 2, Plen: 21, Hops: 200, Addr: "\x0a\x01\x02\x03", Seq: 0xa1a2a3a4, Orig: "\xc0\xa8\x00\x09", Interval: 0xf1f2f3f4}
}

func lost() api.Msg {
	return api.Msg{Kind: api.Rerr, Flags: 1, List: []api.Dest{
		{Addr: "\x0a\x01\x02\x03", Seq: 0xa1a2a3a4}, {Addr: "\xc0\xa8\x00\x09", Seq: 0xf1f2f3f4}, {Addr: "\x0a\x01\x02\x04", Seq: 7},
	}}
}

func ack() api.Msg { return api.Msg{Kind: api.RrepAck} }

// heads are one message of each kind, without extensions.
func heads() []api.Msg { return []api.Msg{request(), reply(), lost(), ack()} }

// ends are messages without extensions whose numbers are all 0, or all as great
// as they may be.
func ends() []api.Msg {
	return []api.Msg{
		{Kind: api.Rreq, Addr: "\x00\x00\x00\x00", Orig: "\x00\x00\x00\x00"},
		{Kind: api.Rreq, Flags: 31, Hops: 255, Nonce: most, Addr: "\xff\xff\xff\xff", Seq: most, Orig: "\xff\xff\xff\xff", Seq2: most},
		{Kind: api.Rrep, Addr: "\x00\x00\x00\x00", Orig: "\x00\x00\x00\x00"},
		{Kind: api.Rrep, Flags: 3, Plen: 31, Hops: 255, Addr: "\xff\xff\xff\xff", Seq: most, Orig: "\xff\xff\xff\xff", Interval: most},
		{Kind: api.Rerr, List: dests(1)},
		{Kind: api.Rerr, Flags: 1, List: slices.Repeat([]api.Dest{{Addr: "\xff\xff\xff\xff", Seq: most}}, 255)},
	}
}

// dests are n destinations, each another than the one next to it.
func dests(n int) []api.Dest {
	l := make([]api.Dest, n)
	for i := range l {
		l[i] = api.Dest{Addr: string([]byte{10, byte(i >> 8), byte(i), byte(255 - i)}), Seq: i * 0x01010101 % (most + 1)}
	}
	return l
}

// sized is the extension of that type whose Data has n bytes, each another than
// the one next to it.
func sized(kind, n int) api.Sub {
	b := make([]byte, n)
	for i := range b {
		b[i] = byte(i + 1)
	}
	return api.Sub{Type: kind, Data: string(b)}
}

// lists are lists of extensions that may be.
func lists() [][]api.Sub {
	return [][]api.Sub{
		nil,
		{},
		{{}},
		{sized(1, 4)},
		{sized(255, 255)},
		{sized(0, 255), sized(9, 0)},
		{sized(1, 4), sized(2, 0), sized(0, 1), sized(255, 7)},
		{{Type: 1, Data: "\x01\x00"}, {Type: 4, Data: "\xff\xff\xff"}},
		slices.Repeat([]api.Sub{{}}, 61),
		slices.Repeat([]api.Sub{sized(200, 3), sized(7, 0)}, 150),
	}
}

// messages are those that may be, with all lists of extensions.
func messages() []api.Msg {
	var all []api.Msg
	for _, m := range append(heads(), ends()...) {
		for _, subs := range lists() {
			all = append(all, with(m, "Subs", subs))
		}
	}
	return all
}

// long is m with extensions in which its datagram has n bytes, of which there is
// room for one at least.
func long(m api.Msg, n int) api.Msg {
	m.Subs = nil
	for rest := n - endOf(m); rest > 0; {
		data := min(rest-2, 255)
		if rest == 258 {
			// One byte would be left, which is no extension.
			data = 254
		}
		m.Subs = append(m.Subs, sized(len(m.Subs)%256, data))
		rest -= 2 + data
	}
	return m
}

// endOf is where the extensions of a message like m begin.
func endOf(m api.Msg) int { return len(spelled(with(m, "Subs", []api.Sub(nil)))) }

// spelled is the bytes of m, which may be, laid by means of their own.
func spelled(m api.Msg) string {
	word := binary.BigEndian.AppendUint32
	var b []byte
	switch m.Kind {
	case api.Rreq:
		b = word([]byte{1, byte(m.Flags << 3), 0, byte(m.Hops)}, uint32(m.Nonce))
		b = word(append(b, m.Addr...), uint32(m.Seq))
		b = word(append(b, m.Orig...), uint32(m.Seq2))
	case api.Rrep:
		b = append([]byte{2, byte(m.Flags << 6), byte(m.Plen), byte(m.Hops)}, m.Addr...)
		b = append(word(b, uint32(m.Seq)), m.Orig...)
		b = word(b, uint32(m.Interval))
	case api.Rerr:
		b = []byte{3, byte(m.Flags << 7), 0, byte(len(m.List))}
		for _, d := range m.List {
			b = word(append(b, d.Addr...), uint32(d.Seq))
		}
	case api.RrepAck:
		b = []byte{4, 0}
	}
	for _, e := range m.Subs {
		b = append(append(b, byte(e.Type), byte(len(e.Data))), e.Data...)
	}
	return string(b)
}

// fault is the first error of b, and where it is, by means of their own.
func fault(b string) (int, api.Errno) {
	switch {
	case len(b) > limit:
		return limit, api.ErrLong
	case len(b) == 0:
		return 0, api.ErrShort
	case strings.IndexByte("\x01\x02\x03\x04", b[0]) < 0:
		return 0, api.ErrKind
	}
	least := []int{24, 20, 4, 2}[b[0]-1]
	if len(b) < least {
		return len(b), api.ErrShort
	}
	// The bits that must be 0, of the second byte and of the third one.
	spare := [][2]byte{{7, 255}, {63, 224}, {127, 255}, {255, 0}}[b[0]-1]
	if b[1]&spare[0] != 0 || b[0] != 4 && b[2]&spare[1] != 0 {
		return 1, api.ErrZero
	}
	if b[0] == 3 {
		if b[3] == 0 {
			return 3, api.ErrCount
		}
		if least += 8 * int(b[3]); len(b) < least {
			return len(b), api.ErrShort
		}
	}
	for at := least; at < len(b); at += 2 + int(b[at+1]) {
		if at+2 > len(b) || at+2+int(b[at+1]) > len(b) {
			return at, api.ErrShort
		}
	}
	return 0, api.OK
}

// with is m with that value in the field of that name.
func with(m api.Msg, name string, value any) api.Msg {
	reflect.ValueOf(&m).Elem().FieldByName(name).Set(reflect.ValueOf(value))
	return m
}

// withByte is b with v at that place.
func withByte(b string, at int, v byte) string {
	return b[:at] + string([]byte{v}) + b[at+1:]
}

// same tells whether a and b are the same in all fields, where a list that is
// nil is the same as an empty one.
func same(a, b api.Msg) bool {
	alike := slices.Equal(a.Subs, b.Subs) && slices.Equal(a.List, b.List)
	a.Subs, b.Subs, a.List, b.List = nil, nil, nil, nil
	return alike && reflect.DeepEqual(a, b)
}

// sketch is m, with its first destinations and extensions alone, so that a long
// one is told in short.
func sketch(m api.Msg) string {
	dests, subs := len(m.List), len(m.Subs)
	m.List, m.Subs = m.List[:min(dests, 4)], m.Subs[:min(subs, 4)]
	return fmt.Sprintf("%.900s, of %d destinations and %d Subs", fmt.Sprintf("%#v", m), dests, subs)
}

// sketchAll is how many messages l has, and the first ones of them.
func sketchAll(l []api.Msg) string {
	s := fmt.Sprint(len(l), " messages")
	for _, m := range l[:min(len(l), 3)] {
		s += fmt.Sprintf("; %.400s", sketch(m))
	}
	return s
}

// checkDatagram holds m to be right, to have these bytes, and to be read of
// them.
func checkDatagram(t *testing.T, m api.Msg, want string) {
	t.Helper()
	if !Right(m) {
		t.Errorf("Right of %s = false", sketch(m))
	}
	if b, at, err := Encode([]api.Msg{m}); b != want || at != 0 || err != api.OK {
		t.Errorf("Encode of %s = %d bytes, %.99q, at %d, error %d; want %d, %.99q", sketch(m), len(b), b, at, err, len(want), want)
	}
	checkParse(t, want, m)
}

// checkRefused holds l to have no datagram, by that error at that place.
func checkRefused(t *testing.T, what string, l []api.Msg, wantAt int, want api.Errno) {
	t.Helper()
	if b, at, err := Encode(l); b != "" || at != wantAt || err != want {
		t.Errorf("%s: Encode of %s = %d bytes, %.99q, at %d, error %d; want nothing, at %d, error %d", what, sketchAll(l), len(b), b, at, err, wantAt, want)
	}
}

// checkWrong holds m not to be right, and to have no datagram, be it alone or
// among others.
func checkWrong(t *testing.T, what string, m api.Msg) {
	t.Helper()
	if Right(m) {
		t.Errorf("%s: Right of %s = true", what, sketch(m))
	}
	checkRefused(t, what, []api.Msg{m}, 0, api.ErrArg)
	checkRefused(t, what, []api.Msg{reply(), m}, 1, api.ErrArg)
	checkRefused(t, what, []api.Msg{m, m, ack()}, 0, api.ErrArg)
}

// checkParse holds b to be the bytes of that message alone.
func checkParse(t *testing.T, b string, want api.Msg) {
	t.Helper()
	l, at, err := Parse(b)
	if len(l) != 1 || !same(l[0], want) || at != 0 || err != api.OK {
		t.Errorf("Parse of %d bytes, %.99q, = %s, at %d, error %d; want %s", len(b), b, sketchAll(l), at, err, sketch(want))
	}
}

// checkError holds b to be no message, by that error at that place.
func checkError(t *testing.T, b string, wantAt int, want api.Errno) {
	t.Helper()
	if l, at, err := Parse(b); len(l) != 0 || at != wantAt || err != want {
		t.Errorf("Parse of %d bytes, %.99q, = %s, at %d, error %d; want nothing, at %d, error %d", len(b), b, sketchAll(l), at, err, wantAt, want)
	}
}

// checkBytes holds b, if it is a message, to come back of it, and if not, to be
// nothing, by the first error and where it is.
func checkBytes(t *testing.T, b string) {
	t.Helper()
	if at, err := fault(b); err != api.OK {
		checkError(t, b, at, err)
		return
	}
	l, at, err := Parse(b)
	if len(l) != 1 || at != 0 || err != api.OK {
		t.Errorf("Parse of %d bytes, %.99q, = %s, at %d, error %d", len(b), b, sketchAll(l), at, err)
		return
	}
	back, at, err := Encode(l)
	if !Right(l[0]) || back != b || spelled(l[0]) != b || at != 0 || err != api.OK {
		t.Errorf("%d bytes, %.99q, come back of %s as %.99q, at %d, error %d", len(b), b, sketch(l[0]), back, at, err)
	}
}

// someMessage is any message that may be, of any of the four kinds.
func someMessage(r *rand.Rand) api.Msg {
	m := heads()[r.Intn(4)]
	for name, greatest := range greatestOf[m.Kind] {
		n := []int{0, greatest, r.Intn(greatest + 1)}[r.Intn(3)]
		m = with(m, name, n)
	}
	switch m.Kind {
	case api.Rreq, api.Rrep:
		m.Addr, m.Orig = someBytes(r, 4), someBytes(r, 4)
	case api.Rerr:
		m.List = nil
		for range 1 + r.Intn([]int{3, 255}[r.Intn(2)]) {
			m.List = append(m.List, api.Dest{Addr: someBytes(r, 4), Seq: int(r.Uint32())})
		}
	}
	for range r.Intn(6) {
		size := r.Intn([]int{6, 256}[r.Intn(2)])
		m.Subs = append(m.Subs, api.Sub{Type: r.Intn(256), Data: someBytes(r, size)})
	}
	return m
}

// someBytes are n bytes.
func someBytes(r *rand.Rand, n int) string {
	b := make([]byte, n)
	r.Read(b)
	return string(b)
}

// filled is n bytes, the first one first, all others fill.
func filled(first, fill byte, n int) string {
	return string([]byte{first}) + strings.Repeat(string([]byte{fill}), n-1)
}
