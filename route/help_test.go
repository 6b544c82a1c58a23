package route

import (
	"encoding/binary"
	"fmt"
	"math"
	"math/rand"
	"reflect"
	"slices"
	"strings"
	"testing"

	"roadbook/api"
)

// mostSubs is how many bytes Subs may have together.
const mostSubs = 200

const (
	// head is how a link-local address begins.
	head = "\xfe\x80\x00\x00\x00\x00\x00\x00"
	// id is a router-id.
	id = "ABCDEFGH"
)

// types are the types of the TLVs of both requests, by their Kinds.
var types = map[int]int{api.RouteReq: 9, api.SeqnoReq: 10}

// ahead is how many bytes stand ahead of the prefix's, by the type.
var ahead = map[int]int{8: 10, 9: 2, 10: 14}

// ownFields are the fields of both Kinds, and the Kind.
var ownFields = map[int][]string{
	api.RouteReq: strings.Fields("Kind Ae Prefix Plen Subs"),
	api.SeqnoReq: strings.Fields("Kind Ae Prefix Plen Seq Hops Id Subs"),
}

// lengths are the least and the greatest length of each encoding.
var lengths = map[int][2]int{0: {0, 0}, 1: {0, 32}, 2: {0, 128}, 3: {64, 128}}

// plens are lengths about all edges, and some that no prefix has; the last byte
// of some would do.
var plens = []int{
	-1, 0, 1, 7, 8, 9, 15, 16, 17, 23, 24, 25, 31, 32, 33, 40, 56, 63, 64, 65, 71, 72, 73, 96, 120, 127, 128, 129, 136, 192, 255,
	-2, -8, -64, -128, -256, 256, 264, 280, 320, 384, 65536, 65600, 1 << 32, 1<<32 + 8, 1<<32 + 64, math.MaxInt, math.MaxInt - 7, math.MinInt, math.MinInt + 64,
}

// otherAes are encodings that there aren't; the last byte of some would do.
var otherAes = []int{-1, -2, -3, -4, -253, -254, -255, -256, 4, 5, 8, 16, 127, 128, 255, 256, 257, 258, 259, 65536, 65537, 1 << 32, 1<<32 + 1, 1<<32 + 3, math.MaxInt, math.MaxInt - 1, math.MinInt, math.MinInt + 1, math.MinInt + 3}

// goodNums are such as fit into two bytes, badNums such as don't.
var (
	goodNums = []int{0, 1, 2, 127, 128, 255, 256, 257, 32767, 32768, 65534, 65535}
	badNums  = []int{-1, -2, -255, -256, -65535, -65536, 65536, 65537, 131071, 1 << 24, 1 << 31, 1<<32 + 1, math.MaxInt, math.MaxInt - 1, math.MinInt, math.MinInt + 1}
)

// badHops are Hops that no seqno request has.
var badHops = []int{0, -1, -2, -127, -128, -255, -256, 256, 257, 511, 65535, 65536, 65537, 1 << 32, 1<<32 + 1, math.MaxInt, math.MinInt, math.MinInt + 1}

// badIds are Ids that no seqno request has.
var badIds = []string{"", "a", id[:7], id + "I", id + id, strings.Repeat("a", 264)}

// addresses are texts of all sizes that an address has, and of others, some of
// them link-local.
func addresses() []string {
	var all []string
	for _, size := range []int{0, 1, 3, 4, 5, 7, 8, 9, 12, 15, 16, 17, 24, 32, 260, 272} {
		for _, fill := range []string{"\x00", "\xff", "\xa5\x5a\x01\x80", head, head + "\xff\xff\xff\xff\xff\xff\xff\xff", head[:7] + "\x01\x80\x00\x00\x00\x00\x00\x00\x01"} {
			all = append(all, strings.Repeat(fill, size/len(fill)+1)[:size])
		}
	}
	return all
}

// wrongAt is a with its i-th bit the other way round, if there is one.
func wrongAt(a string, i int) string {
	if i < 0 || i >= 8*len(a) {
		return a
	}
	b := []byte(a)
	b[i/8] ^= 0x80 >> (i % 8)
	return string(b)
}

// clean is a with all bits from the plen-th on 0.
func clean(a string, plen int) string {
	b := []byte(a)
	for i := max(plen, 0); i < 8*len(b); i++ {
		b[i/8] &^= 0x80 >> (i % 8)
	}
	return string(b)
}

// long tells whether prefixes in that encoding may have that length.
func long(ae, plen int) bool {
	l, is := lengths[ae]
	return is && plen >= l[0] && plen <= l[1]
}

// in is what the chapter's words make of In, by means of their own.
func in(ae int, a string, plen int) bool {
	size := map[int]int{0: 0, 1: 4, 2: 16, 3: 16}[ae]
	return long(ae, plen) && len(a) == size && a == clean(a, plen) && (ae != 3 || a[:8] == head)
}

// size is how many bytes a prefix of that length has in that encoding.
func size(ae, plen int) int {
	n := 0
	for 8*n < plen {
		n++
	}
	if ae == 3 {
		n -= 8
	}
	return n
}

// spelledPrefix is the bytes of a prefix.
func spelledPrefix(ae int, a string, plen int) string {
	if ae == 3 {
		a = a[8:]
	}
	return a[:size(ae, plen)]
}

// filled is the prefix whose bytes these are.
func filled(ae int, bytes string, plen int) string {
	whole := map[int]int{0: 0, 1: 4, 2: 16, 3: 8}[ae]
	a := bytes + strings.Repeat("\x00", whole-len(bytes))
	if ae == 3 {
		a = head + a
	}
	return clean(a, plen)
}

// plain are both requests, with prefixes of each encoding, of each length that
// there is, whose first bits are all others, all 0, and all 1.
func plain() []api.Msg {
	var all []api.Msg
	for ae := range 4 {
		for plen := lengths[ae][0]; plen <= lengths[ae][1]; plen++ {
			for _, bits := range []string{"\xa5\x5a\xc3\x81\x0f\x96\x7e\x99", "\x00\x00\x00\x00\x00\x00\x00\x00", "\xff\xff\xff\xff\xff\xff\xff\xff"} {
				all = append(all, requests(ae, filled(ae, (bits + bits)[:size(ae, plen)], plen), plen)...)
			}
		}
	}
	return all
}

// some are a few of the plain ones, each Kind of each encoding among them.
func some() []api.Msg {
	var all []api.Msg
	for _, plen := range []int{0, 23, 32, 64, 65, 127, 128} {
		for ae := range 4 {
			if long(ae, plen) {
				all = append(all, requests(ae, filled(ae, strings.Repeat("\xa5", size(ae, plen)), plen), plen)...)
			}
		}
	}
	return all
}

// requests are both requests for a prefix; the empty one has one alone.
func requests(ae int, a string, plen int) []api.Msg {
	l := []api.Msg{
		{Kind: api.RouteReq, Ae: ae, Prefix: a, Plen: plen},
		{Kind: api.SeqnoReq, Ae: ae, Prefix: a, Plen: plen, Seq: 0xb1b2, Hops: 0xc1, Id: id},
	}
	if ae == 0 {
		return l[:1]
	}
	return l
}

// messages are the few with all lists.
func messages() []api.Msg {
	var all []api.Msg
	for _, m := range some() {
		for _, subs := range lists() {
			all = append(all, with(m, "Subs", subs))
		}
	}
	return all
}

// updates are Updates as they stand, of each encoding and of lengths about the
// edges, with as many bytes left out as may be, with all lists.
func updates() []api.Raw {
	var all []api.Raw
	for ae := range 4 {
		for _, plen := range plens {
			if !long(ae, plen) {
				continue
			}
			for omitted := range size(ae, plen) + 1 {
				u := api.Raw{Ae: ae, Flags: 0xf1, Plen: plen, Omitted: omitted, Interval: 0xa1a2, Seq: 0xb1b2, Metric: 0xc1c2, Have: 1}
				u.Bytes = "\xf1\xf2\xf3\xf4\xf5\xf6\xf7\xf8\xf9\xfa\xfb\xfc\xfd\xfe\xff\xf0"[omitted:size(ae, plen)]
				l := lists()
				u.Subs = l[len(all)%len(l)]
				all = append(all, u)
			}
		}
	}
	return all
}

// sized is the Sub of that type whose Data has n bytes, each another than the
// one next to it.
func sized(typ, n int) api.Sub {
	b := make([]byte, n)
	for i := range b {
		b[i] = byte(i + i>>8 + 1)
	}
	return api.Sub{Type: typ, Data: string(b)}
}

// lists are lists of Subs that may be, up to 200 bytes together.
func lists() [][]api.Sub {
	return [][]api.Sub{
		nil,
		{},
		{{Type: 2}},
		{sized(127, 1)},
		{{Type: 2, Data: "\x80\x00"}, {Type: 3, Data: "\x00\x01\x00"}, {Type: 2}},
		{sized(9, 197)},
		{sized(2, 198)},
		{sized(127, 98), sized(126, 98)},
		slices.Repeat([]api.Sub{{Type: 64}}, 100),
	}
}

// tooLong are lists of Subs that have too many bytes together, though a TLV has
// room for some of them, even beside the fields.
func tooLong() [][]api.Sub {
	return [][]api.Sub{
		{sized(2, 199)},
		{sized(127, 98), sized(126, 99)},
		append(slices.Repeat([]api.Sub{{Type: 64}}, 99), sized(64, 1)),
		slices.Repeat([]api.Sub{{Type: 64}}, 101),
		{sized(3, 223)},
		{sized(3, 255)},
		slices.Repeat([]api.Sub{sized(5, 255)}, 300),
	}
}

// wrongLists are lists of Subs that may not be.
func wrongLists() [][]api.Sub {
	all := append(tooLong(), []api.Sub{sized(2, 256)}, []api.Sub{sized(2, 65538)})
	for _, typ := range []int{0, 1, 128, 129, 255, 256, 258, 1<<32 + 2, -1, -254, math.MaxInt, math.MinInt, math.MinInt + 2} {
		all = append(all, []api.Sub{{Type: typ}}, []api.Sub{{Type: 2}, sized(typ, 1), {Type: 3}})
	}
	return all
}

// behind are bytes behind the prefix's, what is kept of them, and whether none
// of them must be known.
var behind = []struct {
	bytes string
	subs  []api.Sub
	known bool
}{
	{"", nil, true},
	{"\x00", nil, true},
	{"\x00\x00\x00", nil, true},
	{"\x01\x00", nil, true},
	{"\x01\x03\x80\x00a", nil, true},
	{strings.Repeat("\x00", 225), nil, true},
	{"\x01\xdf" + strings.Repeat("\xff", 223), nil, true},
	{"\x02\x00", []api.Sub{{Type: 2}}, true},
	{"\x7f\x01a", []api.Sub{{Type: 127, Data: "a"}}, true},
	{"\x00\x03\x02\x80\x00\x01\x00\x02\x00\x00", []api.Sub{{Type: 3, Data: "\x80\x00"}, {Type: 2}}, true},
	{"\x09\xc6" + strings.Repeat("b", 198), []api.Sub{{Type: 9, Data: strings.Repeat("b", 198)}}, true},
	{"\x80\x00", nil, false},
	{"\xff\x01a", nil, false},
	{"\x02\x00\x81\x00\x03\x00", []api.Sub{{Type: 2}, {Type: 3}}, false},
	{"\x00\x80\x00\x00", nil, false},
	{"\x09\xc6" + strings.Repeat("b", 198) + "\x80\x01a", []api.Sub{{Type: 9, Data: strings.Repeat("b", 198)}}, false},
	{"\x80\xdf" + strings.Repeat("\x00", 223), nil, false},
}

// wrongBehind are bytes behind the prefix's that have an error.
var wrongBehind = []struct {
	bytes string
	err   api.Errno
}{
	{"\x01", api.ErrShort},
	{"\x02", api.ErrShort},
	{"\x80", api.ErrShort},
	{"\x02\x01", api.ErrShort},
	{"\x01\x01", api.ErrShort},
	{"\x80\x02a", api.ErrShort},
	{"\x00\x02\x00\x05", api.ErrShort},
	{"\x80\x00\x05", api.ErrShort},
	{"\x05\x04abc", api.ErrShort},
	{"\x09\xc7" + strings.Repeat("b", 198), api.ErrShort},
	{"\x09\xc7" + strings.Repeat("b", 199) + "\x02", api.ErrShort},
	{"\x09\xc7" + strings.Repeat("b", 199), api.ErrLong},
	{"\x09\xc6" + strings.Repeat("b", 198) + "\x02\x00", api.ErrLong},
	{"\x80\x00\x09\xc7" + strings.Repeat("b", 199), api.ErrLong},
	{"\x09\xc7" + strings.Repeat("b", 199) + "\x80\x00", api.ErrLong},
	{strings.Repeat("\x40\x00", 101), api.ErrLong},
}

// spelledNum is the two bytes of n.
func spelledNum(n int) string {
	return string(binary.BigEndian.AppendUint16(nil, uint16(n)))
}

// spelledAhead is the bytes of the fields ahead of the prefix of m, which may
// be.
func spelledAhead(m api.Msg) string {
	s := string([]byte{byte(m.Ae), byte(m.Plen)})
	if m.Kind == api.RouteReq {
		return s
	}
	return s + spelledNum(m.Seq) + string([]byte{byte(m.Hops), 0}) + m.Id
}

// spelledSubs is the bytes of the sub-TLVs of l, none of which is of the type 0.
func spelledSubs(l []api.Sub) string {
	var b []byte
	for _, s := range l {
		b = append(b, byte(s.Type), byte(len(s.Data)))
		b = append(b, s.Data...)
	}
	return string(b)
}

// spelledFields is the bytes of the fields, and of the prefix, of m, which may
// be.
func spelledFields(m api.Msg) string {
	return spelledAhead(m) + spelledPrefix(m.Ae, m.Prefix, m.Plen)
}

// spelledData is the data of the TLV of m, which may be.
func spelledData(m api.Msg) string { return spelledFields(m) + spelledSubs(m.Subs) }

// spelled is the bytes of the TLV of m, which may be.
func spelled(m api.Msg) string {
	data := spelledData(m)
	return string([]byte{byte(types[m.Kind]), byte(len(data))}) + data
}

// spelledUpdate is the data of the TLV that u is.
func spelledUpdate(u api.Raw) string {
	return string([]byte{byte(u.Ae), byte(u.Flags), byte(u.Plen), byte(u.Omitted)}) +
		spelledNum(u.Interval) + spelledNum(u.Seq) + spelledNum(u.Metric) + u.Bytes + spelledSubs(u.Subs)
}

// with is m with that value in the field of that name.
func with[T any](m T, name string, value any) T {
	reflect.ValueOf(&m).Elem().FieldByName(name).Set(reflect.ValueOf(value))
	return m
}

// same tells whether a and b are the same in all fields, where a list that is
// nil is the same as an empty one.
func same(a, b api.Msg) bool {
	alike := slices.Equal(a.Subs, b.Subs) && slices.Equal(a.List, b.List)
	a.Subs, b.Subs, a.List, b.List = nil, nil, nil, nil
	return alike && reflect.DeepEqual(a, b)
}

// sameRaw is same for Updates as they stand.
func sameRaw(a, b api.Raw) bool {
	alike := slices.Equal(a.Subs, b.Subs)
	a.Subs, b.Subs = nil, nil
	return alike && reflect.DeepEqual(a, b)
}

// sketch is m, with its first Subs alone, so that a long one is told in short.
func sketch(m api.Msg) string {
	n := len(m.Subs)
	m.Subs = m.Subs[:min(n, 3)]
	return fmt.Sprintf("%.600s, of %d Subs", fmt.Sprintf("%#v", m), n)
}

// sketchRaw is sketch for Updates as they stand.
func sketchRaw(u api.Raw) string {
	n := len(u.Subs)
	u.Subs = u.Subs[:min(n, 3)]
	return fmt.Sprintf("%.600s, of %d Subs", fmt.Sprintf("%#v", u), n)
}

// checkIn holds In to tell what the chapter's words make of it; so do both
// requests, but for the empty prefix of a seqno request.
func checkIn(t *testing.T, ae int, a string, plen int) {
	t.Helper()
	want := in(ae, a, plen)
	if got := In(ae, a, plen); got != want {
		t.Errorf("In(%d, %.99q, %d) = %t", ae, a, plen, got)
	}
	ask := api.Msg{Kind: api.RouteReq, Ae: ae, Prefix: a, Plen: plen}
	seek := api.Msg{Kind: api.SeqnoReq, Ae: ae, Prefix: a, Plen: plen, Hops: 1, Id: id}
	if want {
		checkPut(t, ask, spelled(ask))
	} else {
		checkNoPut(t, "no prefix", ask)
	}
	if want && ae != 0 {
		checkPut(t, seek, spelled(seek))
	} else {
		checkNoPut(t, "no prefix", seek)
	}
}

// checkPut holds m to be right, to have these bytes, and to be read of them.
func checkPut(t *testing.T, m api.Msg, want string) {
	t.Helper()
	if !Right(m) {
		t.Errorf("Right of %s = false", sketch(m))
	}
	if got, ok := Put(m); got != want || !ok {
		t.Errorf("Put of %s = %.99q, %t; want %.99q", sketch(m), got, ok, want)
	}
	checkGet(t, int(want[0]), want[2:], m)
}

// checkNoPut holds m not to be right, and to have no bytes at all.
func checkNoPut(t *testing.T, what string, m api.Msg) {
	t.Helper()
	if Right(m) {
		t.Errorf("%s: Right of %s = true", what, sketch(m))
	}
	if got, ok := Put(m); got != "" || ok {
		t.Errorf("%s: Put of %s = %.99q, %t; want nothing", what, sketch(m), got, ok)
	}
}

// checkTold holds the TLV of that type and data to tell that.
func checkTold(t *testing.T, typ int, data string, want api.Msg, counts bool, wantErr api.Errno) {
	t.Helper()
	m, ok, err := Get(api.Tlv{Type: typ, Data: data})
	if !same(m, want) || ok != counts || err != wantErr {
		t.Errorf("Get of the type %d, %d bytes, %.99q, = %s, %t, error %d; want %s, %t, error %d", typ, len(data), data, sketch(m), ok, err, sketch(want), counts, wantErr)
	}
}

// checkTaken holds the Update of that data to stand so.
func checkTaken(t *testing.T, data string, want api.Raw, counts bool, wantErr api.Errno) {
	t.Helper()
	u, ok, err := Take(api.Tlv{Type: 8, Data: data})
	if !sameRaw(u, want) || ok != counts || err != wantErr {
		t.Errorf("Take of %d bytes, %.99q, = %s, %t, error %d; want %s, %t, error %d", len(data), data, sketchRaw(u), ok, err, sketchRaw(want), counts, wantErr)
	}
}

// checkGet holds the TLV to be that message.
func checkGet(t *testing.T, typ int, data string, want api.Msg) {
	t.Helper()
	checkTold(t, typ, data, want, true, api.OK)
}

// checkTake holds the TLV to be that Update.
func checkTake(t *testing.T, data string, want api.Raw) {
	t.Helper()
	checkTaken(t, data, want, true, api.OK)
}

// checkNothing holds the TLV, of any of the three types, to say nothing, without
// an error.
func checkNothing(t *testing.T, typ int, data string) {
	t.Helper()
	checkError(t, typ, data, api.OK)
}

// checkError holds the TLV, of any of the three types, to have that error, and
// to say nothing beside it.
func checkError(t *testing.T, typ int, data string, want api.Errno) {
	t.Helper()
	if typ == 8 {
		checkTaken(t, data, api.Raw{}, false, want)
		return
	}
	checkTold(t, typ, data, api.Msg{}, false, want)
}

// readSubs is what is kept of the sub-TLVs that s is, and whether none must be
// known; or the error of s.
func readSubs(s string) ([]api.Sub, bool, api.Errno) {
	var l []api.Sub
	known, bytes := true, 0
	for s != "" {
		if s[0] == 0 {
			s = s[1:]
			continue
		}
		if len(s) < 2 || len(s) < 2+int(s[1]) {
			return nil, false, api.ErrShort
		}
		end := 2 + int(s[1])
		switch {
		case s[0] > 127:
			known = false
		case s[0] > 1:
			l = append(l, api.Sub{Type: int(s[0]), Data: s[2:end]})
			bytes += end
		}
		s = s[end:]
	}
	if bytes > mostSubs {
		return nil, false, api.ErrLong
	}
	return l, known, api.OK
}

// parts are what stands behind the fields of a TLV.
type parts struct {
	bytes string
	subs  []api.Sub
	known bool
}

// split is what the chapter's words make of what stands behind the fields of a
// TLV of that type, by means of their own.
func split(typ int, data string) (parts, bool, api.Errno) {
	if len(data) < ahead[typ] {
		return parts{}, false, api.ErrShort
	}
	ae, plen, omitted := int(data[0]), int(data[1]), 0
	if typ == 8 {
		plen, omitted = int(data[2]), int(data[3])
	}
	if ae > 3 {
		return parts{}, false, api.OK
	}
	if !long(ae, plen) || omitted > size(ae, plen) {
		return parts{}, false, api.ErrRange
	}
	end := ahead[typ] + size(ae, plen) - omitted
	if len(data) < end {
		return parts{}, false, api.ErrShort
	}
	subs, known, err := readSubs(data[end:])
	if err != api.OK {
		return parts{}, false, err
	}
	return parts{data[ahead[typ]:end], subs, known}, true, api.OK
}

// told is what the chapter's words make of a TLV of the type 9 or 10.
func told(typ int, data string) (api.Msg, bool, api.Errno) {
	p, ok, err := split(typ, data)
	if !ok || !p.known {
		return api.Msg{}, false, err
	}
	m := api.Msg{Kind: api.RouteReq, Ae: int(data[0]), Plen: int(data[1]), Subs: p.subs}
	m.Prefix = filled(m.Ae, p.bytes, m.Plen)
	if typ == 9 {
		return m, true, api.OK
	}
	if data[0] == 0 || data[4] == 0 {
		return api.Msg{}, false, api.OK
	}
	m.Kind, m.Hops, m.Id = api.SeqnoReq, int(data[4]), data[6:14]
	m.Seq = int(binary.BigEndian.Uint16([]byte(data[2:])))
	return m, true, api.OK
}

// taken is what the chapter's words make of a TLV of the type 8.
func taken(data string) (api.Raw, bool, api.Errno) {
	p, ok, err := split(8, data)
	if !ok {
		return api.Raw{}, false, err
	}
	num := func(at int) int { return int(binary.BigEndian.Uint16([]byte(data[at:]))) }
	u := api.Raw{Ae: int(data[0]), Flags: int(data[1]), Plen: int(data[2]), Omitted: int(data[3]), Interval: num(4), Seq: num(6), Metric: num(8), Bytes: p.bytes, Subs: p.subs}
	if p.known {
		u.Have = 1
	}
	return u, true, api.OK
}

// checkTlv holds the TLV, of any of the three types, to tell what the chapter's
// words make of it; a request comes back of its own bytes, which are no more.
func checkTlv(t *testing.T, typ int, data string) {
	t.Helper()
	if typ == 8 {
		u, ok, err := taken(data)
		checkTaken(t, data, u, ok, err)
		return
	}
	m, ok, err := told(typ, data)
	checkTold(t, typ, data, m, ok, err)
	if !ok {
		return
	}
	checkPut(t, m, spelled(m))
	if back, _ := Put(m); len(back) > 2+len(data) {
		t.Errorf("%d bytes of data, %.99q, come back as %d", len(data), data, len(back)-2)
	}
}

// someMessage is any request that may be.
func someMessage(r *rand.Rand) api.Msg {
	ae := r.Intn(4)
	plen := lengths[ae][0] + r.Intn(lengths[ae][1]-lengths[ae][0]+1)
	l := requests(ae, filled(ae, someBytes(r, size(ae, plen)), plen), plen)
	m := l[r.Intn(len(l))]
	if m.Kind == api.SeqnoReq {
		m.Seq, m.Hops, m.Id = r.Intn(65536), 1+r.Intn(255), someBytes(r, 8)
	}
	m.Subs = someSubs(r)
	return m
}

// someUpdate is the data of any Update that counts.
func someUpdate(r *rand.Rand) string {
	ae := r.Intn(4)
	plen := lengths[ae][0] + r.Intn(lengths[ae][1]-lengths[ae][0]+1)
	omitted := r.Intn(size(ae, plen) + 1)
	u := api.Raw{Ae: ae, Flags: r.Intn(256), Plen: plen, Omitted: omitted, Interval: r.Intn(65536), Seq: r.Intn(65536), Metric: r.Intn(65536)}
	u.Bytes, u.Subs = someBytes(r, size(ae, plen)-omitted), someSubs(r)
	return spelledUpdate(u)
}

// someSubs are any Subs that may be.
func someSubs(r *rand.Rand) []api.Sub {
	var l []api.Sub
	for left := mostSubs; r.Intn(3) > 0 && left > 1; {
		s := api.Sub{Type: 2 + r.Intn(126), Data: someBytes(r, r.Intn(min(5, left-1)))}
		if r.Intn(6) == 0 {
			s.Data = someBytes(r, r.Intn(left-1))
		}
		l = append(l, s)
		left -= 2 + len(s.Data)
	}
	return l
}

// someBytes are n bytes.
func someBytes(r *rand.Rand, n int) string {
	b := make([]byte, n)
	r.Read(b)
	return string(b)
}
