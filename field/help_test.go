package field

import (
	"encoding/binary"
	"fmt"
	"math"
	"math/rand"
	"reflect"
	"slices"
	"strings"
	"testing"

	"roadbook/api"
)

// mostSubs is how many bytes Subs may have together.
const mostSubs = 200

// link is a link-local address, short its short form.
const (
	short = "abcdefgh"
	link  = "\xfe\x80\x00\x00\x00\x00\x00\x00" + short
)

// types are the types of the TLVs of the four messages, by their Kinds.
var types = map[int]int{api.AckReq: 2, api.Ack: 3, api.Hello: 4, api.Ihu: 5}

// ownFields are the fields of each Kind, and its Kind.
var ownFields = map[int][]string{
	api.AckReq: strings.Fields("Kind Nonce Interval Subs"),
	api.Ack:    strings.Fields("Kind Nonce Subs"),
	api.Hello:  strings.Fields("Kind Flags Seq Interval Subs"),
	api.Ihu:    strings.Fields("Kind Ae Cost Interval Addr Subs"),
}

// numbers are the fields that are a number of two bytes; goodNums are such as
// fit, and badNums such as don't: the last bytes alone of them would do.
var (
	numbers  = []string{"Nonce", "Interval", "Seq", "Cost"}
	goodNums = []int{0, 1, 2, 127, 128, 255, 256, 257, 32767, 32768, 65534, 65535}
	badNums  = []int{
		65536, 65537, 65791, 131071, 1 << 24, 1<<31 - 1, 1 << 31, 1<<32 - 1, 1 << 32, 1<<32 + 1, 1 << 56, math.MaxInt - 1, math.MaxInt,
		-1, -2, -255, -256, -32768, -65535, -65536, -1 << 31, -1 << 32, math.MinInt, math.MinInt + 1,
	}
)

// wrongFlags are Flags that no Hello has.
var wrongFlags = []int{-1, -2, 2, 3, 4, 127, 128, 129, 255, 256, 257, 32768, 32769, 65535, 65536, 65537, 1 << 32, 1<<32 + 1, math.MaxInt, math.MinInt, math.MinInt + 1}

// addresses are such as may be, by their encodings: bytes that look like one of
// another encoding among them. No encoding but these is in the list.
var addresses = [][]string{
	{""},
	{"\x0a\x01\x02\x03", "\x00\x00\x00\x00", "\xff\xff\xff\xff", "\xfe\x80\x00\x00", "éé"},
	{strings.Repeat("\x00", 16), strings.Repeat("\xff", 16), "abcdefghijklmnop", link, "\x00\x00\x00\x00\x00\x00\x00\x00\x00\x00\xff\xff\x0a\x01\x02\x03", "\xfe\x80\x00\x00\x00\x00\x00\x01" + short},
	{link, link[:8] + strings.Repeat("\x00", 8), link[:8] + strings.Repeat("\xff", 8), link[:8] + link[:8], link[:8] + "\x00\x00\x00\x00\x0a\x01\x02\x03"},
}

// wrongAes are encodings that there aren't; the last byte of some would do.
var wrongAes = []int{-1, -2, -3, -4, -253, -254, -255, -256, 4, 5, 8, 16, 127, 128, 255, 256, 257, 258, 259, 65536, 65537, 1 << 32, 1<<32 + 1, 1<<32 + 3, math.MaxInt, math.MaxInt - 1, math.MinInt, math.MinInt + 1, math.MinInt + 3}

// plain are messages of all Kinds, and of all encodings, whose fields are all
// others; least those whose numbers are all 0, greatest those whose bits are
// all 1.
func plain() []api.Msg { return heads(1, 0xa1a2, 0xb1b2) }

func least() []api.Msg { return heads(0, 0, 0) }

func greatest() []api.Msg { return heads(1, 65535, 65535) }

// heads are messages of all Kinds, and of all encodings, that have those
// numbers, without Subs.
func heads(flags, first, second int) []api.Msg {
	l := []api.Msg{
		{Kind: api.AckReq, Nonce: first, Interval: second},
		{Kind: api.Ack, Nonce: first},
		{Kind: api.Hello, Flags: flags, Seq: first, Interval: second},
	}
	for ae, all := range addresses {
		l = append(l, api.Msg{Kind: api.Ihu, Ae: ae, Cost: first, Interval: second, Addr: all[0]})
	}
	return l
}

// messages are messages of all Kinds, with all lists.
func messages() []api.Msg {
	var all []api.Msg
	for _, m := range slices.Concat(plain(), least(), greatest()) {
		for _, subs := range lists() {
			all = append(all, with(m, "Subs", subs))
		}
	}
	return all
}

// sized is the Sub of that type whose Data has n bytes, each another than the
// one next to it.
func sized(typ, n int) api.Sub {
	b := make([]byte, n)
	for i := range b {
		b[i] = byte(i + i>>8 + 1)
	}
	return api.Sub{Type: typ, Data: string(b)}
}

// lists are lists of Subs that may be, up to 200 bytes together.
func lists() [][]api.Sub {
	return [][]api.Sub{
		nil,
		{},
		{{Type: 2}},
		{sized(127, 1)},
		{{Type: 2, Data: "\x80\x00"}, {Type: 3, Data: "\x00\x01\x00"}, {Type: 2}},
		{sized(9, 197)},
		{sized(2, 198)},
		{sized(127, 98), sized(126, 98)},
		slices.Repeat([]api.Sub{{Type: 64}}, 100),
		slices.Repeat([]api.Sub{sized(5, 2)}, 50),
	}
}

// tooLong are lists of Subs that have too many bytes together, though a TLV has
// room for many of them, even beside the fields.
func tooLong() [][]api.Sub {
	return [][]api.Sub{
		{sized(2, 199)},
		{sized(127, 98), sized(126, 99)},
		append(slices.Repeat([]api.Sub{{Type: 64}}, 99), sized(64, 1)),
		slices.Repeat([]api.Sub{{Type: 64}}, 101),
		{sized(3, 228)},
		{sized(3, 255)},
		slices.Repeat([]api.Sub{sized(5, 255)}, 300),
	}
}

// wrongLists are lists of Subs that may not be.
func wrongLists() [][]api.Sub {
	all := append(tooLong(), []api.Sub{sized(2, 256)}, []api.Sub{sized(2, 65538)})
	for _, typ := range []int{0, 1, 128, 129, 254, 255, 256, 258, 1<<32 + 2, -1, -126, -254, math.MaxInt, math.MinInt, math.MinInt + 2} {
		all = append(all, []api.Sub{{Type: typ}}, []api.Sub{{Type: 2}, sized(typ, 1), {Type: 3}})
	}
	return all
}

// spelledNum is the two bytes of n.
func spelledNum(n int) string {
	return string(binary.BigEndian.AppendUint16(nil, uint16(n)))
}

// spelledAddr is what stands for an address in that encoding.
func spelledAddr(ae int, a string) string {
	if ae == 3 {
		return a[8:]
	}
	return a
}

// spelledFields is the bytes of the fields of m, which may be.
func spelledFields(m api.Msg) string {
	switch m.Kind {
	case api.AckReq:
		return "\x00\x00" + spelledNum(m.Nonce) + spelledNum(m.Interval)
	case api.Ack:
		return spelledNum(m.Nonce)
	case api.Hello:
		return []string{"\x00\x00", "\x80\x00"}[m.Flags] + spelledNum(m.Seq) + spelledNum(m.Interval)
	}
	return string([]byte{byte(m.Ae), 0}) + spelledNum(m.Cost) + spelledNum(m.Interval) + spelledAddr(m.Ae, m.Addr)
}

// spelledSubs is the bytes of the sub-TLVs of l; those of the type 0 have no
// data.
func spelledSubs(l []api.Sub) string {
	var b []byte
	for _, s := range l {
		if s.Type == 0 {
			b = append(b, 0)
			continue
		}
		b = append(b, byte(s.Type), byte(len(s.Data)))
		b = append(b, s.Data...)
	}
	return string(b)
}

// spelledData is the data of the TLV of m, which may be.
func spelledData(m api.Msg) string { return spelledFields(m) + spelledSubs(m.Subs) }

// spelled is the bytes of the TLV of m, which may be.
func spelled(m api.Msg) string { return tlv(types[m.Kind], spelledData(m)) }

// tlv is the bytes of a TLV.
func tlv(typ int, data string) string {
	return string([]byte{byte(typ), byte(len(data))}) + data
}

// with is m with that value in the field of that name.
func with(m api.Msg, name string, value any) api.Msg {
	reflect.ValueOf(&m).Elem().FieldByName(name).Set(reflect.ValueOf(value))
	return m
}

// same tells whether a and b are the same in all fields, where a list that is
// nil is the same as an empty one.
func same(a, b api.Msg) bool {
	alike := slices.Equal(a.Subs, b.Subs) && slices.Equal(a.List, b.List)
	a.Subs, b.Subs, a.List, b.List = nil, nil, nil, nil
	return alike && reflect.DeepEqual(a, b)
}

// sketch is m, with its first Subs alone, so that a long one is told in short.
func sketch(m api.Msg) string {
	n := len(m.Subs)
	m.Subs = m.Subs[:min(n, 3)]
	return fmt.Sprintf("%.600s, of %d Subs", fmt.Sprintf("%#v", m), n)
}

// checkPut holds m to be right, to have these bytes, and to be read of them.
func checkPut(t *testing.T, m api.Msg, want string) {
	t.Helper()
	if !Right(m) {
		t.Errorf("Right of %s = false", sketch(m))
	}
	if got, ok := Put(m); got != want || !ok {
		t.Errorf("Put of %s = %.99q, %t; want %.99q", sketch(m), got, ok, want)
	}
	checkGet(t, int(want[0]), want[2:], m)
}

// checkNoPut holds m not to be right, and to have no bytes at all.
func checkNoPut(t *testing.T, what string, m api.Msg) {
	t.Helper()
	if Right(m) {
		t.Errorf("%s: Right of %s = true", what, sketch(m))
	}
	if got, ok := Put(m); got != "" || ok {
		t.Errorf("%s: Put of %s = %.99q, %t; want nothing", what, sketch(m), got, ok)
	}
}

// checkTold holds the TLV of that type and data to tell that.
func checkTold(t *testing.T, typ int, data string, want api.Msg, counts bool, wantErr api.Errno) {
	t.Helper()
	m, ok, err := Get(api.Tlv{Type: typ, Data: data})
	if !same(m, want) || ok != counts || err != wantErr {
		t.Errorf("Get of the type %d, %d bytes, %.99q, = %s, %t, error %d; want %s, %t, error %d", typ, len(data), data, sketch(m), ok, err, sketch(want), counts, wantErr)
	}
}

// checkGet holds the TLV to be that message.
func checkGet(t *testing.T, typ int, data string, want api.Msg) {
	t.Helper()
	checkTold(t, typ, data, want, true, api.OK)
}

// checkNothing holds the TLV to say nothing, without an error.
func checkNothing(t *testing.T, typ int, data string) {
	t.Helper()
	checkTold(t, typ, data, api.Msg{}, false, api.OK)
}

// checkError holds the TLV to have that error, and to say nothing beside it.
func checkError(t *testing.T, typ int, data string, want api.Errno) {
	t.Helper()
	checkTold(t, typ, data, api.Msg{}, false, want)
}

// fieldsEnd is where the fields of the TLV end, and true; false, if it is an
// Ihu of an encoding that there isn't.
func fieldsEnd(typ int, data string) (int, bool) {
	switch {
	case typ == 3:
		return 2, true
	case typ != 5 || len(data) < 6:
		return 6, true
	case data[0] > 3:
		return 6, false
	}
	return map[byte]int{0: 6, 1: 10, 2: 22, 3: 14}[data[0]], true
}

// readSubs is what is kept of the sub-TLVs that s is, and whether none must be
// known; or the error of s.
func readSubs(s string) ([]api.Sub, bool, api.Errno) {
	var l []api.Sub
	known, bytes := true, 0
	for s != "" {
		if s[0] == 0 {
			s = s[1:]
			continue
		}
		if len(s) < 2 || len(s) < 2+int(s[1]) {
			return nil, false, api.ErrShort
		}
		end := 2 + int(s[1])
		switch {
		case s[0] > 127:
			known = false
		case s[0] > 1:
			l = append(l, api.Sub{Type: int(s[0]), Data: s[2:end]})
			bytes += end
		}
		s = s[end:]
	}
	if bytes > mostSubs {
		return nil, false, api.ErrLong
	}
	return l, known, api.OK
}

// readFields is the message that the fields of the TLV are, all of which are
// there.
func readFields(typ int, data string) api.Msg {
	num := func(at int) int { return int(binary.BigEndian.Uint16([]byte(data[at:]))) }
	switch typ {
	case 2:
		return api.Msg{Kind: api.AckReq, Nonce: num(2), Interval: num(4)}
	case 3:
		return api.Msg{Kind: api.Ack, Nonce: num(0)}
	case 4:
		m := api.Msg{Kind: api.Hello, Seq: num(2), Interval: num(4)}
		if data[0] > 127 {
			m.Flags = 1
		}
		return m
	}
	m := api.Msg{Kind: api.Ihu, Ae: int(data[0]), Cost: num(2), Interval: num(4)}
	switch m.Ae {
	case 1:
		m.Addr = data[6:10]
	case 2:
		m.Addr = data[6:22]
	case 3:
		m.Addr = link[:8] + data[6:14]
	}
	return m
}

// told is what the chapter's words make of a TLV of a type from 2 to 5, by
// means of their own.
func told(typ int, data string) (api.Msg, bool, api.Errno) {
	end, is := fieldsEnd(typ, data)
	if len(data) < end {
		return api.Msg{}, false, api.ErrShort
	}
	if !is {
		return api.Msg{}, false, api.OK
	}
	subs, known, err := readSubs(data[end:])
	if err != api.OK || !known {
		return api.Msg{}, false, err
	}
	return with(readFields(typ, data), "Subs", subs), true, api.OK
}

// checkTlv holds the TLV to tell what the chapter's words make of it; a message
// comes back of its own bytes, which are no more.
func checkTlv(t *testing.T, typ int, data string) {
	t.Helper()
	m, ok, err := told(typ, data)
	checkTold(t, typ, data, m, ok, err)
	if !ok {
		return
	}
	checkPut(t, m, spelled(m))
	if back, _ := Put(m); len(back) > 2+len(data) {
		t.Errorf("%d bytes of data, %.99q, come back as %d", len(data), data, len(back)-2)
	}
}

// someMessage is any message that may be, of any of the four Kinds.
func someMessage(r *rand.Rand) api.Msg {
	num := func() int { return r.Intn(65536) }
	if r.Intn(2) == 0 {
		num = func() int { return goodNums[r.Intn(len(goodNums))] }
	}
	l := heads(r.Intn(2), num(), num())
	m := l[r.Intn(len(l))]
	if m.Kind == api.Ihu {
		m.Addr = someAddress(r, m.Ae)
	}
	for left := mostSubs; r.Intn(3) > 0 && left > 1; {
		s := api.Sub{Type: 2 + r.Intn(126), Data: someBytes(r, r.Intn(min(5, left-1)))}
		if r.Intn(6) == 0 {
			s.Data = someBytes(r, r.Intn(left-1))
		}
		m.Subs = append(m.Subs, s)
		left -= 2 + len(s.Data)
	}
	return m
}

// someAddress is any address that may be in that encoding.
func someAddress(r *rand.Rand, ae int) string {
	switch ae {
	case 1:
		return someBytes(r, 4)
	case 2:
		return someBytes(r, 16)
	case 3:
		return link[:8] + someBytes(r, 8)
	}
	return ""
}

// someBytes are n bytes.
func someBytes(r *rand.Rand, n int) string {
	b := make([]byte, n)
	r.Read(b)
	return string(b)
}
