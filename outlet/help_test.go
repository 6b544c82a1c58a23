package outlet

import (
	"encoding/binary"
	"fmt"
	"math/rand"
	"reflect"
	"slices"
	"strings"
	"testing"

	"roadbook/api"
	"roadbook/intake"
)

// mostSubs is how many bytes Subs may have together, bodyMost how many a body
// has at most.
const (
	mostSubs = 200
	bodyMost = 65531
)

const (
	// head is how a link-local address begins.
	head = "\xfe\x80\x00\x00\x00\x00\x00\x00"
	// id and otherId are router-ids.
	id      = "ABCDEFGH"
	otherId = "IJKLMNOP"
	// ipv4Addr is an address of IPv4, linkAddr and ipv6Addr are such of IPv6, the
	// one link-local, the other not: all without a byte that is 0, but in head.
	ipv4Addr = "\xa1\xa2\xa3\xa5"
	linkAddr = head + "\xc1\xc2\xc3\xc4\xc5\xc6\xc7\xc9"
	ipv6Addr = "\xb1\xb2\xb3\xb4\xb5\xb6\xb7\xb8\xb9\xba\xbb\xbc\xbd\xbe\xbf\xb5"
	// ipv4Next, linkNext and ipv6Next are such, too, each another one.
	ipv4Next = "\xd1\xd2\xd3\xd4"
	linkNext = head + "\xe1\xe2\xe3\xe4\xe5\xe6\xe7\xe8"
	ipv6Next = "\xf1\xf2\xf3\xf4\xf5\xf6\xf7\xf8\xf9\xfa\xfb\xfc\xfd\xfe\xff\xf1"
	// numbers are the bytes of an Update's Interval, Seq and Metric, far those of
	// one that says that there is no way.
	numbers = "\x01\x02\x03\x04\x05\x06"
	far     = "\x01\x02\x03\x04\xff\xff"
)

// addrs are addresses by encoding.
var addrs = [4]string{"", ipv4Addr, ipv6Addr, linkAddr}

// plens are lengths about the edges; not every encoding has all of them.
var plens = []int{0, 1, 7, 8, 9, 24, 31, 32, 64, 65, 127, 128}

// lengths are the least and the greatest length of each encoding.
var lengths = [4][2]int{{0, 0}, {0, 32}, {0, 128}, {64, 128}}

// answer is what Encode answers, or what Parse does.
type answer struct {
	bytes string
	at    int
	err   api.Errno
}

// who is the TLV of a router-id.
func who(id string) string { return "\x06\x0a\x00\x00" + id }

// wayTo is an Update of a prefix, by id and no next hop.
func wayTo(ae int, prefix string, plen int) api.Msg {
	return api.Msg{Kind: api.Update, Ae: ae, Prefix: prefix, Plen: plen, Interval: 0x102, Seq: 0x304, Metric: 0x506, Id: id}
}

// by is m, by that next hop.
func by(m api.Msg, next string) api.Msg { return with(m, "Next", next) }

// noWayTo is an Update of a prefix to which there is no way.
func noWayTo(ae int, prefix string, plen int) api.Msg {
	return with(with(wayTo(ae, prefix, plen), "Id", ""), "Metric", 65535)
}

// wrongs are messages that may not be, of Kinds of Babel, of others, and of none.
func wrongs() []api.Msg {
	l := []api.Msg{
		{},
		{Kind: -1},
		{Kind: 15},
		{Kind: 1<<32 + 8},
		{Kind: api.RipRoute, Cmd: 2, Ver: 2, Family: 2, Prefix: ipv4Addr, Plen: 32, Next: "\x00\x00\x00\x00", Metric: 1},
		{Kind: api.RrepAck},
		{Kind: api.AckReq, Interval: -1},
		{Kind: api.Ack, Nonce: 65536},
		{Kind: api.Ack, Seq: 1},
		{Kind: api.Ack, Subs: []api.Sub{{Type: 1}}},
		{Kind: api.Hello, Flags: 2},
		{Kind: api.Ihu, Ae: 1},
		{Kind: api.Update},
		{Kind: api.RouteReq, Ae: 1, Prefix: ipv4Addr, Plen: 8},
		{Kind: api.SeqnoReq, Ae: 1, Prefix: ipv4Addr, Plen: 32, Id: id},
		{Kind: api.Opaque, Type: 10},
		{Kind: api.Opaque, Type: 256},
		{Kind: api.Opaque, Type: 11, Data: strings.Repeat("a", 256)},
		with(wayTo(1, ipv4Addr, 32), "Id", ""),
		with(wayTo(1, ipv4Addr, 32), "Plen", 31),
		by(wayTo(1, ipv4Addr, 32), ipv6Next),
		by(wayTo(3, linkAddr, 128), ipv4Next),
		by(noWayTo(1, ipv4Addr, 32), ipv4Next),
		wayTo(0, "", 0),
	}
	for _, v := range []int{0, 1, 128} {
		l = append(l, with(noWayTo(2, ipv6Addr, 128), "Subs", []api.Sub{{Type: v}}))
	}
	return l
}

// fields are messages whose fields stand alone, of each Kind and encoding.
func fields() []api.Msg {
	return []api.Msg{
		{Kind: api.AckReq, Nonce: 0x102, Interval: 0x304},
		{Kind: api.Ack, Nonce: 0x102},
		{Kind: api.Hello, Seq: 0x102, Interval: 0x304},
		{Kind: api.Hello, Flags: 1, Seq: 0x102, Interval: 0x304},
		{Kind: api.Ihu, Cost: 0x102, Interval: 0x304},
		{Kind: api.Ihu, Ae: 1, Cost: 0x102, Interval: 0x304, Addr: ipv4Addr},
		{Kind: api.Ihu, Ae: 2, Cost: 0x102, Interval: 0x304, Addr: ipv6Addr},
		{Kind: api.Ihu, Ae: 3, Cost: 0x102, Interval: 0x304, Addr: linkAddr},
	}
}

// requests are both requests, in each encoding that they have, of each length.
func requests() []api.Msg {
	var l []api.Msg
	for ae := range 4 {
		for _, plen := range plensOf(ae) {
			m := api.Msg{Kind: api.RouteReq, Ae: ae, Prefix: clean(addrs[ae], plen), Plen: plen}
			l = append(l, m)
			if ae > 0 {
				m.Kind, m.Seq, m.Hops, m.Id = api.SeqnoReq, 0x102, 5, otherId
				l = append(l, m)
			}
		}
	}
	return l
}

// opaques are messages that nobody knows.
func opaques() []api.Msg {
	var l []api.Msg
	for _, typ := range []int{11, 12, 99, 128, 254, 255} {
		for _, n := range []int{0, 1, 254, 255} {
			l = append(l, api.Msg{Kind: api.Opaque, Type: typ, Data: sized(2, n).Data})
		}
	}
	return l
}

// updates are Updates of each encoding and of each length: without a way, and
// with one, by no next hop and by each that may be.
func updates() []api.Msg {
	l := []api.Msg{{Kind: api.Update, Interval: 0x102, Seq: 0x304, Metric: 65535}}
	for ae := 1; ae < 4; ae++ {
		for _, plen := range plensOf(ae) {
			m := api.Msg{Kind: api.Update, Ae: ae, Prefix: clean(addrs[ae], plen), Plen: plen, Interval: 0x102, Seq: 0x304, Metric: 65535}
			l = append(l, m)
			m.Metric, m.Id = 0x506, id
			for _, next := range nextsOf(ae) {
				m.Next = next
				l = append(l, m)
			}
		}
	}
	return l
}

// others are messages that are no Updates.
func others() []api.Msg { return slices.Concat(fields(), requests(), opaques()) }

// goods are messages of all Kinds that may be.
func goods() []api.Msg { return slices.Concat(others(), updates()) }

// plensOf are the lengths that prefixes of that encoding may have.
func plensOf(ae int) []int {
	var l []int
	for _, plen := range plens {
		if plen >= lengths[ae][0] && plen <= lengths[ae][1] {
			l = append(l, plen)
		}
	}
	return l
}

// nextsOf are the next hops that an Update of that encoding may have.
func nextsOf(ae int) []string {
	if ae == 1 {
		return []string{"", ipv4Next, ipv4Addr}
	}
	return []string{"", linkNext, ipv6Next, linkAddr}
}

// sized is the Sub of that type whose Data has n bytes, each another than the
// one next to it.
func sized(typ, n int) api.Sub {
	b := make([]byte, n)
	for i := range b {
		b[i] = byte(i + i>>8 + 1)
	}
	return api.Sub{Type: typ, Data: string(b)}
}

// lists are lists of Subs that may be, up to 200 bytes together.
func lists() [][]api.Sub {
	return [][]api.Sub{
		nil,
		{},
		{{Type: 2}},
		{{Type: 2, Data: "\x80\x00"}, {Type: 3, Data: "\x00\x01\x00"}, {Type: 2}},
		{sized(2, 198)},
		{sized(127, 98), sized(126, 98)},
		slices.Repeat([]api.Sub{{Type: 64}}, 100),
	}
}

// wrongAt is a with its i-th bit the other way round.
func wrongAt(a string, i int) string {
	b := []byte(a)
	b[i/8] ^= 0x80 >> (i % 8)
	return string(b)
}

// clean is a with all bits from the plen-th on 0.
func clean(a string, plen int) string {
	b := []byte(a)
	for i := plen; i < 8*len(b); i++ {
		b[i/8] &^= 0x80 >> (i % 8)
	}
	return string(b)
}

// in tells whether a, with that length, is a prefix in that encoding.
func in(ae int, a string, plen int) bool {
	if ae < 0 || ae > 3 || plen < lengths[ae][0] || plen > lengths[ae][1] {
		return false
	}
	return len(a) == [4]int{0, 4, 16, 16}[ae] && a == clean(a, plen) && (ae != 3 || a[:8] == head)
}

// rightSubs tells whether Subs may be.
func rightSubs(l []api.Sub) bool {
	bytes := 0
	for _, s := range l {
		if s.Type < 2 || s.Type > 127 || len(s.Data) > 255 {
			return false
		}
		bytes += 2 + len(s.Data)
	}
	return bytes <= mostSubs
}

// bare is m with the fields of its Kind alone, if it is one of Babel.
func bare(m api.Msg) api.Msg {
	var b api.Msg
	switch m.Kind {
	case 7:
		b = api.Msg{Nonce: m.Nonce, Interval: m.Interval, Subs: m.Subs}
	case 8:
		b = api.Msg{Nonce: m.Nonce, Subs: m.Subs}
	case 9:
		b = api.Msg{Flags: m.Flags, Seq: m.Seq, Interval: m.Interval, Subs: m.Subs}
	case 10:
		b = api.Msg{Ae: m.Ae, Cost: m.Cost, Interval: m.Interval, Addr: m.Addr, Subs: m.Subs}
	case 11:
		b = api.Msg{Ae: m.Ae, Prefix: m.Prefix, Plen: m.Plen, Interval: m.Interval, Seq: m.Seq, Metric: m.Metric, Id: m.Id, Next: m.Next, Subs: m.Subs}
	case 12:
		b = api.Msg{Ae: m.Ae, Prefix: m.Prefix, Plen: m.Plen, Subs: m.Subs}
	case 13:
		b = api.Msg{Ae: m.Ae, Prefix: m.Prefix, Plen: m.Plen, Seq: m.Seq, Hops: m.Hops, Id: m.Id, Subs: m.Subs}
	case 14:
		b = api.Msg{Type: m.Type, Data: m.Data}
	}
	b.Kind = m.Kind
	return b
}

// mayBe is what the chapters' words make of Right, by means of their own.
func mayBe(m api.Msg) bool {
	if !same(m, bare(m)) || !rightSubs(m.Subs) {
		return false
	}
	for _, n := range []int{m.Nonce, m.Interval, m.Seq, m.Cost, m.Metric} {
		if n < 0 || n > 65535 {
			return false
		}
	}
	switch m.Kind {
	case 7, 8:
		return true
	case 9:
		return m.Flags == 0 || m.Flags == 1
	case 10:
		return m.Ae >= 0 && m.Ae < 4 && len(m.Addr) == [4]int{0, 4, 16, 16}[m.Ae] && (m.Ae != 3 || m.Addr[:8] == head)
	case 11:
		return in(m.Ae, m.Prefix, m.Plen) && rightWay(m)
	case 12:
		return in(m.Ae, m.Prefix, m.Plen)
	case 13:
		return in(m.Ae, m.Prefix, m.Plen) && m.Ae > 0 && m.Hops > 0 && m.Hops < 256 && len(m.Id) == 8
	}
	return m.Kind == 14 && m.Type > 10 && m.Type < 256 && len(m.Data) < 256
}

// rightWay tells whether an Update, whose prefix is one, says rightly who has
// the way.
func rightWay(m api.Msg) bool {
	if m.Metric == 65535 {
		return m.Id == "" && m.Next == ""
	}
	return m.Ae > 0 && len(m.Id) == 8 && (m.Next == "" || len(m.Next) == len(m.Prefix))
}

// tlv is the bytes of a TLV.
func tlv(typ int, data string) string {
	return string([]byte{byte(typ), byte(len(data))}) + data
}

// spelledNum is the two bytes of n.
func spelledNum(n int) string {
	return string(binary.BigEndian.AppendUint16(nil, uint16(n)))
}

// spelledSubs is the bytes of the sub-TLVs of l.
func spelledSubs(l []api.Sub) string {
	var b strings.Builder
	for _, s := range l {
		b.WriteString(tlv(s.Type, s.Data))
	}
	return b.String()
}

// spelledPrefix is the bytes of the prefix of m.
func spelledPrefix(m api.Msg) string {
	size := (m.Plen + 7) / 8
	if m.Ae == 3 {
		return m.Prefix[8:size]
	}
	return m.Prefix[:size]
}

// spelledNext is the TLV of a next hop.
func spelledNext(a string) string {
	switch {
	case len(a) == 4:
		return "\x07\x06\x01\x00" + a
	case a[:8] == head:
		return "\x07\x0a\x03\x00" + a[8:]
	}
	return "\x07\x12\x02\x00" + a
}

// spelledUpdate is the TLV of an Update, without its first n bytes.
func spelledUpdate(m api.Msg, n int) string {
	flags := byte(128)
	if m.Ae == 0 {
		flags = 0
	}
	data := string([]byte{byte(m.Ae), flags, byte(m.Plen), byte(n)}) + spelledNum(m.Interval) + spelledNum(m.Seq) + spelledNum(m.Metric)
	return tlv(8, data+spelledPrefix(m)[n:]+spelledSubs(m.Subs))
}

// spelledAlone is the TLV of a message that may be, and is no Update.
func spelledAlone(m api.Msg) string {
	subs := spelledSubs(m.Subs)
	switch m.Kind {
	case 7:
		return tlv(2, "\x00\x00"+spelledNum(m.Nonce)+spelledNum(m.Interval)+subs)
	case 8:
		return tlv(3, spelledNum(m.Nonce)+subs)
	case 9:
		return tlv(4, string([]byte{byte(m.Flags << 7), 0})+spelledNum(m.Seq)+spelledNum(m.Interval)+subs)
	case 10:
		a := m.Addr
		if m.Ae == 3 {
			a = a[8:]
		}
		return tlv(5, string([]byte{byte(m.Ae), 0})+spelledNum(m.Cost)+spelledNum(m.Interval)+a+subs)
	case 12:
		return tlv(9, string([]byte{byte(m.Ae), byte(m.Plen)})+spelledPrefix(m)+subs)
	case 13:
		return tlv(10, string([]byte{byte(m.Ae), byte(m.Plen)})+spelledNum(m.Seq)+string([]byte{byte(m.Hops), 0})+m.Id+spelledPrefix(m)+subs)
	}
	return tlv(m.Type, m.Data)
}

// alike is how many of the first bytes of the prefix of m the default prefix
// has, too.
func alike(c api.Ctx, m api.Msg) int {
	known, bytes := c.Prefix[m.Ae], spelledPrefix(m)
	if m.Ae == 3 && known != "" {
		known = known[8:]
	}
	n := 0
	for n < len(known) && n < len(bytes) && known[n] == bytes[n] {
		n++
	}
	return n
}

// with is m with that value in the field of that name.
func with(m api.Msg, name string, value any) api.Msg {
	reflect.ValueOf(&m).Elem().FieldByName(name).Set(reflect.ValueOf(value))
	return m
}

// same tells whether a and b are the same in all fields, where a list that is
// nil is the same as an empty one.
func same(a, b api.Msg) bool {
	alike := slices.Equal(a.Subs, b.Subs) && slices.Equal(a.List, b.List)
	a.Subs, b.Subs, a.List, b.List = nil, nil, nil, nil
	return alike && reflect.DeepEqual(a, b)
}

// sketch is v in short.
func sketch(v any) string { return fmt.Sprintf("%.900s", fmt.Sprintf("%#v", v)) }

// wrapped is the datagram of a body.
func wrapped(body string) string { return "\x2a\x02" + spelledNum(len(body)) + body }

// someMessage is any message that may be.
func someMessage(r *rand.Rand) api.Msg {
	l := others()
	m := l[r.Intn(len(l))]
	if r.Intn(3) > 0 {
		m = someUpdate(r)
	}
	if m.Kind != api.Opaque && r.Intn(3) == 0 {
		m.Subs = lists()[r.Intn(len(lists()))]
	}
	return m
}

// someUpdate is any Update, some bytes of whose prefix one or the other default
// prefix has, too; who has the way is one of a few.
func someUpdate(r *rand.Rand) api.Msg {
	ae := r.Intn(4)
	if ae == 0 && r.Intn(8) > 0 {
		ae = 1
	}
	plen := lengths[ae][0] + r.Intn(lengths[ae][1]-lengths[ae][0]+1)
	a := addrs[ae]
	for range r.Intn(3) {
		if ae > 0 {
			a = wrongAt(a, 8*len(a)-1-r.Intn(8*map[int]int{1: 4, 2: 16, 3: 8}[ae]))
		}
	}
	m := api.Msg{Kind: api.Update, Ae: ae, Prefix: clean(a, plen), Plen: plen, Interval: r.Intn(65536), Seq: r.Intn(65536), Metric: r.Intn(65535)}
	if ae == 0 || r.Intn(5) == 0 {
		m.Metric = 65535
		return m
	}
	m.Id = []string{id, otherId, "\x00\x00\x00\x00" + ipv4Addr}[r.Intn(3)]
	l := nextsOf(ae)
	m.Next = l[r.Intn(len(l))]
	return m
}

// few are a message of each Kind and encoding.
func few() []api.Msg {
	var l []api.Msg
	for _, m := range goods() {
		if m.Plen == 0 && m.Ae < 2 && m.Type < 12 || m.Plen == 31 || m.Plen == 65 {
			l = append(l, m)
		}
	}
	return l
}

// filled is Opaque messages whose bytes are n together: n isn't 1.
func filled(n int) []api.Msg {
	var l []api.Msg
	for n > 0 {
		size := min(n, 257)
		if n-size == 1 {
			size--
		}
		l = append(l, api.Msg{Kind: api.Opaque, Type: 99, Data: strings.Repeat("f", size-2)})
		n -= size
	}
	return l
}

// step is the bytes of m, which may be, where c is known, and what is known
// behind them, by means of their own; false, if it has none there.
func step(c api.Ctx, m api.Msg) (string, api.Ctx, bool) {
	if m.Kind != 11 {
		return spelledAlone(m), c, true
	}
	bytes := spelledUpdate(m, alike(c, m))
	family := map[int]int{1: 0, 2: 1, 3: 1}[m.Ae]
	if m.Metric != 65535 {
		if m.Next == "" && c.Next[family] != "" {
			return "", c, false
		}
		if m.Next != c.Next[family] {
			bytes, c.Next[family] = spelledNext(m.Next)+bytes, m.Next
		}
		if m.Id != c.Id {
			bytes, c.Id = who(m.Id)+bytes, m.Id
		}
	}
	if m.Ae > 0 {
		c.Prefix[m.Ae] = m.Prefix
	}
	return bytes, c, true
}

// spelled is what the chapter's words make of Encode, by means of their own.
func spelled(l []api.Msg) answer {
	for i, m := range l {
		if !mayBe(m) {
			return answer{at: i, err: api.ErrArg}
		}
	}
	var c api.Ctx
	body := ""
	for i, m := range l {
		bytes, behind, ok := step(c, m)
		if !ok {
			return answer{at: i, err: api.ErrCtx}
		}
		body, c = body+bytes, behind
		if len(body) > bodyMost {
			return answer{at: i, err: api.ErrLong}
		}
	}
	return answer{bytes: wrapped(body)}
}

// spelledPlain is what the chapter's words make of Plain, by means of their own.
func spelledPlain(l []api.Msg) int {
	n := 4
	for _, m := range l {
		if !mayBe(m) {
			return 0
		}
		bytes, _, _ := step(api.Ctx{}, m)
		n += len(bytes)
	}
	return n
}

// checkAnswer holds messages to be answered so; beside an error there is its
// place alone.
func checkAnswer(t *testing.T, l []api.Msg, want answer) {
	t.Helper()
	bytes, at, err := Encode(l)
	if bytes != want.bytes || at != want.at || err != want.err {
		t.Errorf("Encode of %d messages, %s, = %d bytes, %.300q, at %d, error %d; want %d, %.300q, at %d, error %d", len(l), sketch(l), len(bytes), bytes, at, err, len(want.bytes), want.bytes, want.at, want.err)
	}
	if err != api.OK && (bytes != "" || at < 0 || at >= len(l)) || err == api.OK && at != 0 {
		t.Errorf("Encode of %s has the error %d, at %d, beside %.300q", sketch(l), err, at, bytes)
	}
	if err == api.OK {
		checkBack(t, l, bytes)
	}
}

// checkBack holds bytes to be read as the messages of l, and to be no more than
// Plain tells.
func checkBack(t *testing.T, l []api.Msg, bytes string) {
	t.Helper()
	told, at, err := intake.Parse(bytes)
	if err != api.OK || !slices.EqualFunc(told, l, same) {
		t.Errorf("%.300q is read as %d messages, %s, error %d at %d; want %d, %s", bytes, len(told), sketch(told), err, at, len(l), sketch(l))
	}
	if n := Plain(l); len(bytes) > n {
		t.Errorf("%d bytes, %.300q, are more than the %d of Plain", len(bytes), bytes, n)
	}
}

// checkPlain holds the plain bytes of messages to be that many.
func checkPlain(t *testing.T, l []api.Msg) {
	t.Helper()
	if got, want := Plain(l), spelledPlain(l); got != want {
		t.Errorf("Plain of %d messages, %s, = %d; want %d", len(l), sketch(l), got, want)
	}
}

// checkEncode holds messages to be answered as the chapter's words say.
func checkEncode(t *testing.T, l []api.Msg) {
	t.Helper()
	checkAnswer(t, l, spelled(l))
	checkPlain(t, l)
}

// checkBody holds messages to have the datagram of that body.
func checkBody(t *testing.T, l []api.Msg, body string) {
	t.Helper()
	checkAnswer(t, l, answer{bytes: wrapped(body)})
	checkEncode(t, l)
}

// checkError holds messages to have that error, at that place.
func checkError(t *testing.T, l []api.Msg, at int, err api.Errno) {
	t.Helper()
	checkAnswer(t, l, answer{at: at, err: err})
	checkEncode(t, l)
	if n := Plain(l); (n == 0) != (err == api.ErrArg) {
		t.Errorf("Plain of %d messages, %s, with the error %d, = %d", len(l), sketch(l), err, n)
	}
}

// checkRewritten holds the datagram b, whatever it is, to be read as messages
// that have a datagram, unless this is too long, which is read as the same, and
// written as it is; and tells whether there is one.
func checkRewritten(t *testing.T, b string) bool {
	t.Helper()
	l, _, err := intake.Parse(b)
	if err != api.OK {
		return false
	}
	checkEncode(t, l)
	first, _, err := Encode(l)
	if err == api.ErrLong {
		return false
	}
	told, at, errThen := intake.Parse(first)
	if err != api.OK || errThen != api.OK || !slices.EqualFunc(told, l, same) {
		t.Fatalf("%.300q, which is %s, is written as %.300q, error %d, which is %s, error %d at %d", b, sketch(l), first, err, sketch(told), errThen, at)
	}
	again, _, err := Encode(told)
	if again != first || err != api.OK {
		t.Errorf("%.300q is written as %.300q, and this as %.300q, error %d", b, first, again, err)
	}
	return true
}
