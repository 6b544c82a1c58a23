package lean

import (
	"encoding/binary"
	"fmt"
	"math/rand"
	"reflect"
	"slices"
	"strings"
	"testing"

	"roadbook/api"
	"roadbook/ctx"
	"roadbook/field"
	"roadbook/intake"
	"roadbook/route"
)

// mostSubs is how many bytes Subs may have together.
const mostSubs = 200

const (
	// head is how a link-local address begins.
	head = "\xfe\x80\x00\x00\x00\x00\x00\x00"
	// id and otherId are router-ids.
	id      = "ABCDEFGH"
	otherId = "IJKLMNOP"
	// ipv4Addr is an address of IPv4, linkAddr and ipv6Addr are such of IPv6, the
	// one link-local, the other not: all without a byte that is 0, but in head.
	ipv4Addr = "\xa1\xa2\xa3\xa5"
	linkAddr = head + "\xc1\xc2\xc3\xc4\xc5\xc6\xc7\xc9"
	ipv6Addr = "\xb1\xb2\xb3\xb4\xb5\xb6\xb7\xb8\xb9\xba\xbb\xbc\xbd\xbe\xbf\xb5"
	// ipv4Next, linkNext and ipv6Next are such, too, each another one.
	ipv4Next = "\xd1\xd2\xd3\xd4"
	linkNext = head + "\xe1\xe2\xe3\xe4\xe5\xe6\xe7\xe8"
	ipv6Next = "\xf1\xf2\xf3\xf4\xf5\xf6\xf7\xf8\xf9\xfa\xfb\xfc\xfd\xfe\xff\xf1"
)

// all is what is known where all is known.
var all = api.Ctx{Prefix: [4]string{"", ipv4Addr, ipv6Addr, linkAddr}, Next: [2]string{ipv4Next, linkNext}, Id: id}

// addrs are addresses by encoding.
var addrs = [4]string{"", ipv4Addr, ipv6Addr, linkAddr}

// plens are lengths about the edges; not every encoding has all of them.
var plens = []int{0, 1, 7, 8, 9, 24, 31, 32, 64, 65, 127, 128}

// lengths are the least and the greatest length of each encoding.
var lengths = [4][2]int{{0, 0}, {0, 32}, {0, 128}, {64, 128}}

// noKinds are Kinds that there aren't.
var noKinds = []int{0, -1, -7, -11, 15, 16, 255, 256, 256 + 7, 256 + 11, 1<<32 + 7, 1<<32 + 11, 1<<32 + 14}

// answer is what Put answers.
type answer struct {
	bytes string
	ctx   api.Ctx
	err   api.Errno
}

// fields are messages whose fields stand alone, of each Kind and encoding.
func fields() []api.Msg {
	return []api.Msg{
		{Kind: api.AckReq, Nonce: 0x102, Interval: 0x304},
		{Kind: api.Ack, Nonce: 0x102},
		{Kind: api.Hello, Seq: 0x102, Interval: 0x304},
		{Kind: api.Hello, Flags: 1, Seq: 0x102, Interval: 0x304},
		{Kind: api.Ihu, Cost: 0x102, Interval: 0x304},
		{Kind: api.Ihu, Ae: 1, Cost: 0x102, Interval: 0x304, Addr: ipv4Addr},
		{Kind: api.Ihu, Ae: 2, Cost: 0x102, Interval: 0x304, Addr: ipv6Addr},
		{Kind: api.Ihu, Ae: 3, Cost: 0x102, Interval: 0x304, Addr: linkAddr},
	}
}

// requests are both requests, in each encoding that they have, of each length.
func requests() []api.Msg {
	var l []api.Msg
	for ae := range 4 {
		for _, plen := range plensOf(ae) {
			m := api.Msg{Kind: api.RouteReq, Ae: ae, Prefix: clean(addrs[ae], plen), Plen: plen}
			l = append(l, m)
			if ae > 0 {
				m.Kind, m.Seq, m.Hops, m.Id = api.SeqnoReq, 0x102, 5, otherId
				l = append(l, m)
			}
		}
	}
	return l
}

// opaques are messages that nobody knows.
func opaques() []api.Msg {
	var l []api.Msg
	for _, typ := range []int{11, 12, 99, 128, 254, 255} {
		for _, n := range []int{0, 1, 254, 255} {
			l = append(l, api.Msg{Kind: api.Opaque, Type: typ, Data: sized(2, n).Data})
		}
	}
	return l
}

// updates are Updates of each encoding and of each length: without a way, and
// with one, by no next hop and by each that may be.
func updates() []api.Msg {
	l := []api.Msg{{Kind: api.Update, Interval: 0x102, Seq: 0x304, Metric: 65535}}
	for ae := 1; ae < 4; ae++ {
		for _, plen := range plensOf(ae) {
			m := api.Msg{Kind: api.Update, Ae: ae, Prefix: clean(addrs[ae], plen), Plen: plen, Interval: 0x102, Seq: 0x304, Metric: 65535}
			l = append(l, m)
			m.Metric, m.Id = 0x506, id
			for _, next := range nextsOf(ae) {
				m.Next = next
				l = append(l, m)
			}
		}
	}
	return l
}

// others are messages that are no Updates.
func others() []api.Msg { return slices.Concat(fields(), requests(), opaques()) }

// goods are messages of all Kinds that may be.
func goods() []api.Msg { return slices.Concat(others(), updates()) }

// few are a few of them, each Kind and each encoding among them.
func few() []api.Msg {
	var l []api.Msg
	for _, m := range goods() {
		if m.Plen == 0 && m.Ae < 2 || m.Plen == 31 || m.Plen == 65 {
			l = append(l, m)
		}
	}
	return l
}

// plensOf are the lengths that prefixes of that encoding may have.
func plensOf(ae int) []int {
	var l []int
	for _, plen := range plens {
		if plen >= lengths[ae][0] && plen <= lengths[ae][1] {
			l = append(l, plen)
		}
	}
	return l
}

// nextsOf are the next hops that an Update of that encoding may have.
func nextsOf(ae int) []string {
	if ae == 1 {
		return []string{"", ipv4Next, ipv4Addr}
	}
	return []string{"", linkNext, ipv6Next, linkAddr}
}

// contexts are what may be known, with each place empty and not.
func contexts() []api.Ctx {
	var l []api.Ctx
	for i := range 32 {
		for _, next := range []string{"", linkNext, ipv6Next} {
			c := api.Ctx{Next: [2]string{"", next}}
			for ae := range 3 {
				if i>>ae&1 == 1 {
					c.Prefix[ae+1] = addrs[ae+1]
				}
			}
			if i>>3&1 == 1 {
				c.Next[0] = ipv4Next
			}
			if i>>4&1 == 1 {
				c.Id = id
			}
			l = append(l, c)
		}
	}
	return l
}

// lone are nothing, all, and each place alone.
func lone() []api.Ctx {
	return []api.Ctx{
		{},
		all,
		{Id: id},
		{Id: otherId},
		{Next: [2]string{ipv4Next, ""}},
		{Next: [2]string{"", linkNext}},
		{Next: [2]string{"", ipv6Next}},
		{Prefix: [4]string{"", ipv4Addr}},
		{Prefix: [4]string{"", "", ipv6Addr}},
		{Prefix: [4]string{"", "", "", linkAddr}},
	}
}

// sized is the Sub of that type whose Data has n bytes, each another than the
// one next to it.
func sized(typ, n int) api.Sub {
	b := make([]byte, n)
	for i := range b {
		b[i] = byte(i + i>>8 + 1)
	}
	return api.Sub{Type: typ, Data: string(b)}
}

// lists are lists of Subs that may be, up to 200 bytes together.
func lists() [][]api.Sub {
	return [][]api.Sub{
		nil,
		{},
		{{Type: 2}},
		{{Type: 2, Data: "\x80\x00"}, {Type: 3, Data: "\x00\x01\x00"}, {Type: 2}},
		{sized(2, 198)},
		{sized(127, 98), sized(126, 98)},
		slices.Repeat([]api.Sub{{Type: 64}}, 100),
	}
}

// wrongLists are lists of Subs that may not be.
func wrongLists() [][]api.Sub {
	l := [][]api.Sub{
		{sized(2, 199)},
		{sized(127, 98), sized(126, 99)},
		slices.Repeat([]api.Sub{{Type: 64}}, 101),
		{sized(3, 255)},
		{sized(2, 256)},
	}
	for _, typ := range []int{0, 1, 128, 255, 256, 258, -1} {
		l = append(l, []api.Sub{{Type: typ}}, []api.Sub{{Type: 2}, sized(typ, 1), {Type: 3}})
	}
	return l
}

// wrongAt is a with its i-th bit the other way round.
func wrongAt(a string, i int) string {
	b := []byte(a)
	b[i/8] ^= 0x80 >> (i % 8)
	return string(b)
}

// clean is a with all bits from the plen-th on 0.
func clean(a string, plen int) string {
	b := []byte(a)
	for i := plen; i < 8*len(b); i++ {
		b[i/8] &^= 0x80 >> (i % 8)
	}
	return string(b)
}

// in tells whether a, with that length, is a prefix in that encoding.
func in(ae int, a string, plen int) bool {
	if ae < 0 || ae > 3 || plen < lengths[ae][0] || plen > lengths[ae][1] {
		return false
	}
	return len(a) == [4]int{0, 4, 16, 16}[ae] && a == clean(a, plen) && (ae != 3 || a[:8] == head)
}

// rightSubs tells whether Subs may be.
func rightSubs(l []api.Sub) bool {
	bytes := 0
	for _, s := range l {
		if s.Type < 2 || s.Type > 127 || len(s.Data) > 255 {
			return false
		}
		bytes += 2 + len(s.Data)
	}
	return bytes <= mostSubs
}

// bare is m with the fields of its Kind alone, if it is one of Babel.
func bare(m api.Msg) api.Msg {
	var b api.Msg
	switch m.Kind {
	case 7:
		b = api.Msg{Nonce: m.Nonce, Interval: m.Interval, Subs: m.Subs}
	case 8:
		b = api.Msg{Nonce: m.Nonce, Subs: m.Subs}
	case 9:
		b = api.Msg{Flags: m.Flags, Seq: m.Seq, Interval: m.Interval, Subs: m.Subs}
	case 10:
		b = api.Msg{Ae: m.Ae, Cost: m.Cost, Interval: m.Interval, Addr: m.Addr, Subs: m.Subs}
	case 11:
		b = api.Msg{Ae: m.Ae, Prefix: m.Prefix, Plen: m.Plen, Interval: m.Interval, Seq: m.Seq, Metric: m.Metric, Id: m.Id, Next: m.Next, Subs: m.Subs}
	case 12:
		b = api.Msg{Ae: m.Ae, Prefix: m.Prefix, Plen: m.Plen, Subs: m.Subs}
	case 13:
		b = api.Msg{Ae: m.Ae, Prefix: m.Prefix, Plen: m.Plen, Seq: m.Seq, Hops: m.Hops, Id: m.Id, Subs: m.Subs}
	case 14:
		b = api.Msg{Type: m.Type, Data: m.Data}
	}
	b.Kind = m.Kind
	return b
}

// mayBe is what the chapters' words make of Right, by means of their own.
func mayBe(m api.Msg) bool {
	if !same(m, bare(m)) || !rightSubs(m.Subs) {
		return false
	}
	for _, n := range []int{m.Nonce, m.Interval, m.Seq, m.Cost, m.Metric} {
		if n < 0 || n > 65535 {
			return false
		}
	}
	switch m.Kind {
	case 7, 8:
		return true
	case 9:
		return m.Flags == 0 || m.Flags == 1
	case 10:
		return m.Ae >= 0 && m.Ae < 4 && len(m.Addr) == [4]int{0, 4, 16, 16}[m.Ae] && (m.Ae != 3 || m.Addr[:8] == head)
	case 11:
		return in(m.Ae, m.Prefix, m.Plen) && rightWay(m)
	case 12:
		return in(m.Ae, m.Prefix, m.Plen)
	case 13:
		return in(m.Ae, m.Prefix, m.Plen) && m.Ae > 0 && m.Hops > 0 && m.Hops < 256 && len(m.Id) == 8
	}
	return m.Kind == 14 && m.Type > 10 && m.Type < 256 && len(m.Data) < 256
}

// rightWay tells whether an Update, whose prefix is one, says rightly who has
// the way.
func rightWay(m api.Msg) bool {
	if m.Metric == 65535 {
		return m.Id == "" && m.Next == ""
	}
	return m.Ae > 0 && len(m.Id) == 8 && (m.Next == "" || len(m.Next) == len(m.Prefix))
}

// tlv is the bytes of a TLV.
func tlv(typ int, data string) string {
	return string([]byte{byte(typ), byte(len(data))}) + data
}

// spelledNum is the two bytes of n.
func spelledNum(n int) string {
	return string(binary.BigEndian.AppendUint16(nil, uint16(n)))
}

// spelledSubs is the bytes of the sub-TLVs of l.
func spelledSubs(l []api.Sub) string {
	var b strings.Builder
	for _, s := range l {
		b.WriteString(tlv(s.Type, s.Data))
	}
	return b.String()
}

// spelledPrefix is the bytes of the prefix of m.
func spelledPrefix(m api.Msg) string {
	size := (m.Plen + 7) / 8
	if m.Ae == 3 {
		return m.Prefix[8:size]
	}
	return m.Prefix[:size]
}

// spelledNext is the TLV of a next hop.
func spelledNext(a string) string {
	switch {
	case len(a) == 4:
		return "\x07\x06\x01\x00" + a
	case a[:8] == head:
		return "\x07\x0a\x03\x00" + a[8:]
	}
	return "\x07\x12\x02\x00" + a
}

// spelledUpdate is the TLV of an Update, without its first n bytes.
func spelledUpdate(m api.Msg, n int) string {
	flags := byte(128)
	if m.Ae == 0 {
		flags = 0
	}
	data := string([]byte{byte(m.Ae), flags, byte(m.Plen), byte(n)}) + spelledNum(m.Interval) + spelledNum(m.Seq) + spelledNum(m.Metric)
	return tlv(8, data+spelledPrefix(m)[n:]+spelledSubs(m.Subs))
}

// spelledAlone is the TLV of a message that may be, and is no Update.
func spelledAlone(m api.Msg) string {
	subs := spelledSubs(m.Subs)
	switch m.Kind {
	case 7:
		return tlv(2, "\x00\x00"+spelledNum(m.Nonce)+spelledNum(m.Interval)+subs)
	case 8:
		return tlv(3, spelledNum(m.Nonce)+subs)
	case 9:
		return tlv(4, string([]byte{byte(m.Flags << 7), 0})+spelledNum(m.Seq)+spelledNum(m.Interval)+subs)
	case 10:
		a := m.Addr
		if m.Ae == 3 {
			a = a[8:]
		}
		return tlv(5, string([]byte{byte(m.Ae), 0})+spelledNum(m.Cost)+spelledNum(m.Interval)+a+subs)
	case 12:
		return tlv(9, string([]byte{byte(m.Ae), byte(m.Plen)})+spelledPrefix(m)+subs)
	case 13:
		return tlv(10, string([]byte{byte(m.Ae), byte(m.Plen)})+spelledNum(m.Seq)+string([]byte{byte(m.Hops), 0})+m.Id+spelledPrefix(m)+subs)
	}
	return tlv(m.Type, m.Data)
}

// alike is how many of the first bytes of the prefix of m the default prefix
// has, too.
func alike(c api.Ctx, m api.Msg) int {
	known, bytes := c.Prefix[m.Ae], spelledPrefix(m)
	if m.Ae == 3 && known != "" {
		known = known[8:]
	}
	n := 0
	for n < len(known) && n < len(bytes) && known[n] == bytes[n] {
		n++
	}
	return n
}

// spelled is what the chapter's words make of Put, by means of their own.
func spelled(c api.Ctx, m api.Msg) answer {
	if !mayBe(m) {
		return answer{"", c, api.ErrArg}
	}
	if m.Kind != 11 {
		return answer{spelledAlone(m), c, api.OK}
	}
	update := spelledUpdate(m, alike(c, m))
	family := map[int]int{1: 0, 2: 1, 3: 1}[m.Ae]
	ahead := ""
	if m.Metric != 65535 {
		if m.Next == "" && c.Next[family] != "" {
			return answer{"", c, api.ErrCtx}
		}
		if m.Id != c.Id {
			ahead, c.Id = "\x06\x0a\x00\x00"+m.Id, m.Id
		}
		if m.Next != c.Next[family] {
			ahead, c.Next[family] = ahead+spelledNext(m.Next), m.Next
		}
	}
	if m.Ae > 0 {
		c.Prefix[m.Ae] = m.Prefix
	}
	return answer{ahead + update, c, api.OK}
}

// spelledPlain is what the chapter's words make of Plain, by means of their own.
func spelledPlain(m api.Msg) (string, bool) {
	if !mayBe(m) {
		return "", false
	}
	if m.Kind != 11 {
		return spelledAlone(m), true
	}
	ahead := ""
	if m.Metric != 65535 {
		ahead = "\x06\x0a\x00\x00" + m.Id
		if m.Next != "" {
			ahead += spelledNext(m.Next)
		}
	}
	return ahead + spelledUpdate(m, 0), true
}

// taken is the messages that bytes tell, taken by layers 20 to 22 where c is
// known, and what is known behind them; false, if one of their TLVs isn't all
// there, or has an error, or counts for nothing.
func taken(c api.Ctx, bytes string) ([]api.Msg, api.Ctx, bool) {
	var told []api.Msg
	for bytes != "" {
		if len(bytes) < 2 || len(bytes) < 2+int(bytes[1]) {
			return nil, c, false
		}
		t := api.Tlv{Type: int(bytes[0]), Data: bytes[2 : 2+int(bytes[1])]}
		bytes = bytes[2+len(t.Data):]
		m, counts, err := api.Msg{}, true, api.OK
		switch {
		case t.Type < 2:
			counts = false
		case t.Type < 6:
			m, counts, err = field.Get(t)
		case t.Type < 9:
			var more []api.Msg
			c, more, err = ctx.Step(c, t)
			told = append(told, more...)
			counts = t.Type != 8 || len(more) == 1
		case t.Type < 11:
			m, counts, err = route.Get(t)
		default:
			m = api.Msg{Kind: api.Opaque, Type: t.Type, Data: t.Data}
		}
		if !counts || err != api.OK {
			return nil, c, false
		}
		if m.Kind != 0 {
			told = append(told, m)
		}
	}
	return told, c, true
}

// with is m with that value in the field of that name.
func with(m api.Msg, name string, value any) api.Msg {
	reflect.ValueOf(&m).Elem().FieldByName(name).Set(reflect.ValueOf(value))
	return m
}

// same tells whether a and b are the same in all fields, where a list that is
// nil is the same as an empty one.
func same(a, b api.Msg) bool {
	alike := slices.Equal(a.Subs, b.Subs) && slices.Equal(a.List, b.List)
	a.Subs, b.Subs, a.List, b.List = nil, nil, nil, nil
	return alike && reflect.DeepEqual(a, b)
}

// sketch is v in short.
func sketch(v any) string { return fmt.Sprintf("%.900s", fmt.Sprintf("%#v", v)) }

// checkAnswer holds m to be answered so, where c is known; beside an error there
// are no bytes, and what was known is.
func checkAnswer(t *testing.T, c api.Ctx, m api.Msg, want answer) {
	t.Helper()
	bytes, behind, err := Put(c, m)
	if bytes != want.bytes || behind != want.ctx || err != want.err {
		t.Errorf("Put of %s, where is known %s, = %q, %s, error %d; want %q, %s, error %d", sketch(m), sketch(c), bytes, sketch(behind), err, want.bytes, sketch(want.ctx), want.err)
	}
	if err != api.OK && (bytes != "" || behind != c) {
		t.Errorf("Put of %s has the error %d beside %q and %s, where was known %s", sketch(m), err, bytes, sketch(behind), sketch(c))
	}
	if err == api.OK {
		checkBack(t, c, m, bytes, behind)
	}
}

// checkBack holds bytes to tell m and nothing else, where c is known, to leave
// behind them what may be and is told, and to be no more than the plain ones.
func checkBack(t *testing.T, c api.Ctx, m api.Msg, bytes string, behind api.Ctx) {
	t.Helper()
	told, got, ok := taken(c, bytes)
	if !ok || len(told) != 1 || !same(told[0], m) || got != behind || !ctx.Ok(got) {
		t.Errorf("%q, where is known %s, tells %s, %t, and leaves behind it %s; want %s, %s", bytes, sketch(c), sketch(told), ok, sketch(got), sketch(m), sketch(behind))
	}
	if s, is := Plain(m); !is || len(bytes) > len(s) {
		t.Errorf("%q are more bytes of %s than %q, %t", bytes, sketch(m), s, is)
	}
}

// checkPut holds m to be answered as the chapter's words say.
func checkPut(t *testing.T, c api.Ctx, m api.Msg) {
	t.Helper()
	checkAnswer(t, c, m, spelled(c, m))
}

// checkBytes holds m to have these bytes, and that to be known behind them.
func checkBytes(t *testing.T, c api.Ctx, m api.Msg, bytes string, behind api.Ctx) {
	t.Helper()
	checkAnswer(t, c, m, answer{bytes, behind, api.OK})
	checkPut(t, c, m)
}

// checkError holds m to have that error.
func checkError(t *testing.T, c api.Ctx, m api.Msg, err api.Errno) {
	t.Helper()
	checkAnswer(t, c, m, answer{"", c, err})
	checkPut(t, c, m)
}

// checkPlain holds the plain bytes of m to be what the chapter's words say, and
// to tell m where nothing is known.
func checkPlain(t *testing.T, m api.Msg) {
	t.Helper()
	want, is := spelledPlain(m)
	got, ok := Plain(m)
	if got != want || ok != is {
		t.Errorf("Plain of %s = %q, %t; want %q, %t", sketch(m), got, ok, want, is)
	}
	if !ok {
		return
	}
	told, _, ok := taken(api.Ctx{}, got)
	if !ok || len(told) != 1 || !same(told[0], m) {
		t.Errorf("%q, where nothing is known, tells %s, %t; want %s", got, sketch(told), ok, sketch(m))
	}
	told, at, err := intake.Parse(wrapped(got))
	if err != api.OK || len(told) != 1 || !same(told[0], m) {
		t.Errorf("%q, as a body, tells %s, error %d at %d; want %s", got, sketch(told), err, at, sketch(m))
	}
}

// checkRight holds m to be right, or not, as the chapter's words say too; one
// that isn't has no bytes at all, whatever is known.
func checkRight(t *testing.T, what string, m api.Msg, want bool) {
	t.Helper()
	if got := Right(m); got != want || mayBe(m) != want {
		t.Errorf("%s: Right of %s = %t; want %t, by its words %t", what, sketch(m), got, want, mayBe(m))
	}
	checkPlain(t, m)
	for _, c := range []api.Ctx{{}, all} {
		if want {
			checkPut(t, c, m)
		} else {
			checkError(t, c, m, api.ErrArg)
		}
	}
}

// wrapped is the datagram of a body.
func wrapped(body string) string { return "\x2a\x02" + spelledNum(len(body)) + body }

// someMessage is any message that may be.
func someMessage(r *rand.Rand) api.Msg {
	l := others()
	m := l[r.Intn(len(l))]
	if r.Intn(3) > 0 {
		m = someUpdate(r)
	}
	if m.Kind != api.Opaque && r.Intn(3) == 0 {
		m.Subs = lists()[r.Intn(len(lists()))]
	}
	return m
}

// someUpdate is any Update, some bytes of whose prefix one or the other default
// prefix has, too; who has the way is one of a few.
func someUpdate(r *rand.Rand) api.Msg {
	ae := r.Intn(4)
	if ae == 0 && r.Intn(8) > 0 {
		ae = 1
	}
	plen := lengths[ae][0] + r.Intn(lengths[ae][1]-lengths[ae][0]+1)
	a := addrs[ae]
	for range r.Intn(3) {
		if ae > 0 {
			a = wrongAt(a, 8*len(a)-1-r.Intn(8*map[int]int{1: 4, 2: 16, 3: 8}[ae]))
		}
	}
	m := api.Msg{Kind: api.Update, Ae: ae, Prefix: clean(a, plen), Plen: plen, Interval: r.Intn(65536), Seq: r.Intn(65536), Metric: r.Intn(65535)}
	if ae == 0 || r.Intn(5) == 0 {
		m.Metric = 65535
		return m
	}
	m.Id = []string{id, otherId, "\x00\x00\x00\x00" + ipv4Addr}[r.Intn(3)]
	l := nextsOf(ae)
	m.Next = l[r.Intn(len(l))]
	return m
}
