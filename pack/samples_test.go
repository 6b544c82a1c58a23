package pack

import (
	"strings"

	"roadbook/api"
)

const (
	// none is four bytes that are 0, naught sixteen.
	none   = "\x00\x00\x00\x00"
	naught = none + none + none + none
	// said is what an entry of authentication of RIP says.
	said = "\x00\x02abcdefghijklmnop"
	// head is how a link-local address begins.
	head = "\xfe\x80\x00\x00\x00\x00\x00\x00"
	// net is an address whose bits from the 35th on are 0.
	net = "\x20\x01\x0d\xb8\x20\x00\x00\x00\x00\x00\x00\x00\x00\x00\x00\x00"
	// id and otherId are router-ids of Babel.
	id      = "ABCDEFGH"
	otherId = "IJKLMNOP"
	// numbers are the bytes of an Update's Interval, Seq and Metric.
	numbers = "\x01\x02\x03\x04\x05\x06"
)

// Entries of RIP: of the version 1, of the version 2, and what asks for all of
// the table. Entries of RIPng: a route, a next hop, and one who says so.
const (
	ripEntry1   = "\x00\x02\x00\x00\x0a\x01\x02\x03" + none + none + "\x00\x00\x00\x05"
	ripEntry2   = "\x00\x02\x01\x02\x0a\x01\x02\x00\xff\xff\xfe\x00\x0a\x00\x00\x01\x00\x00\x00\x05"
	ripEntryAll = none + none + none + none + "\x00\x00\x00\x10"
	ngEntry     = net + "\x01\x02\x23\x05"
	ngHop       = head + "abcdefgh\x00\x00\x00\xff"
	ngHopNone   = naught + "\x00\x00\x00\xff"
)

// Heads of datagrams: of RIP, of both versions, and of what asks in them; of
// RIPng.
const (
	rip1Head    = "\x02\x01\x00\x00"
	rip2Head    = "\x02\x02\x00\x00"
	rip1AskHead = "\x01\x01\x00\x00"
	rip2AskHead = "\x01\x02\x00\x00"
	secretHead  = rip2Head + "\xff\xff" + said
	ngHead      = "\x02\x01\x00\x00"
	ngAskHead   = "\x01\x01\x00\x00"
)

// Datagrams of AODV, one of each Kind.
const (
	rreqBytes = "\x01\x98\x00\xc8\xb1\xb2\xb3\xb4\x0a\x01\x02\x03\xa1\xa2\xa3\xa4\xc0\xa8\x00\x09\xf1\xf2\xf3\xf4"
	rrepBytes = "\x02\x80\x15\xc8\x0a\x01\x02\x03\xa1\xa2\xa3\xa4\xc0\xa8\x00\x09\xf1\xf2\xf3\xf4"
	rerrBytes = "\x03\x80\x00\x02\x0a\x01\x02\x03\xa1\xa2\xa3\xa4\xc0\xa8\x00\x09\xf1\xf2\xf3\xf4"
	ackBytes  = "\x04\x00"
)

// TLVs of Babel: router-ids, a next hop, and Updates; of 10.1.7.0/24 one without
// the two bytes that 10.1.0.0/16 has, too.
const (
	who       = "\x06\x0a\x00\x00" + id
	whoElse   = "\x06\x0a\x00\x00" + otherId
	hop       = "\x07\x06\x01\x00abcd"
	wayTlv    = "\x08\x0c\x01\x80\x10\x00" + numbers + "\x0a\x01"
	wayAgain  = "\x08\x0a\x01\x80\x10\x02" + numbers
	way7Tlv   = "\x08\x0d\x01\x80\x18\x00" + numbers + "\x0a\x01\x07"
	way7Short = "\x08\x0b\x01\x80\x18\x02" + numbers + "\x07"
	ackTlv    = "\x03\x02\x00\x07"
)

// with is m, after change.
func with(m api.Msg, change func(m *api.Msg)) api.Msg {
	change(&m)
	return m
}

// many is l, n times over.
func many(n int, l ...api.Msg) []api.Msg {
	var all []api.Msg
	for range n {
		all = append(all, l...)
	}
	return all
}

// Routes of RIP: of both versions, one with authentication, one that asks, and
// what asks for all of the table.
func rip1() api.Msg {
	return api.Msg{Kind: api.RipRoute, Cmd: 2, Ver: 1, Family: 2, Prefix: "\x0a\x01\x02\x03", Plen: 32, Next: none, Metric: 5}
}

func rip2() api.Msg {
	return api.Msg{Kind: api.RipRoute, Cmd: 2, Ver: 2, Family: 2, Tag: 258, Prefix: "\x0a\x01\x02\x00", Plen: 23, Next: "\x0a\x00\x00\x01", Metric: 5}
}

func secret() api.Msg { return with(rip2(), func(m *api.Msg) { m.Auth = said }) }

func ripAsk() api.Msg { return with(rip2(), func(m *api.Msg) { m.Cmd = 1 }) }

func ripAll() api.Msg {
	return api.Msg{Kind: api.RipRoute, Cmd: 1, Ver: 1, Prefix: none, Next: none, Metric: 16}
}

// ng is a route of RIPng, ngBy the same by a next hop, ngAsk one that asks.
func ng() api.Msg {
	return api.Msg{Kind: api.NgRoute, Cmd: 2, Tag: 258, Prefix: net, Plen: 35, Next: naught, Metric: 5}
}

func ngBy() api.Msg { return with(ng(), func(m *api.Msg) { m.Next = head + "abcdefgh" }) }

func ngAsk() api.Msg { return with(ng(), func(m *api.Msg) { m.Cmd = 1 }) }

// Messages of AODV, of each Kind, as their datagrams are told above.
func rreq() api.Msg {
	return api.Msg{Kind: api.Rreq, Flags: 19, Hops: 200, Nonce: 0xb1b2b3b4, Addr: "\x0a\x01\x02\x03", Seq: 0xa1a2a3a4, Orig: "\xc0\xa8\x00\x09", Seq2: 0xf1f2f3f4}
}

func rrep() api.Msg {
	return api.Msg{Kind: api.Rrep, Flags: 2, Plen: 21, Hops: 200, Addr: "\x0a\x01\x02\x03", Seq: 0xa1a2a3a4, Orig: "\xc0\xa8\x00\x09", Interval: 0xf1f2f3f4}
}

func rerr() api.Msg {
	return api.Msg{Kind: api.Rerr, Flags: 1, List: []api.Dest{{Addr: "\x0a\x01\x02\x03", Seq: 0xa1a2a3a4}, {Addr: "\xc0\xa8\x00\x09", Seq: 0xf1f2f3f4}}}
}

func rrepAck() api.Msg { return api.Msg{Kind: api.RrepAck} }

// sized is what acknowledges a reply of AODV, in n bytes.
func sized(n int) api.Msg {
	m := rrepAck()
	for n -= len(ackBytes); n > 0; {
		// What is left behind an extension is none, or suffices for one.
		size := min(n, 257)
		if n > size && n < size+2 {
			size -= 2
		}
		m.Subs = append(m.Subs, api.Sub{Type: 7, Data: strings.Repeat("s", size-2)})
		n -= size
	}
	return m
}

// way and way7 are Updates of 10.1.0.0/16 and 10.1.7.0/24, by id; wayBy is the
// first one by a next hop.
func way() api.Msg {
	return api.Msg{Kind: api.Update, Ae: 1, Prefix: "\x0a\x01\x00\x00", Plen: 16, Interval: 0x102, Seq: 0x304, Metric: 0x506, Id: id}
}

func way7() api.Msg {
	return with(way(), func(m *api.Msg) { m.Prefix, m.Plen = "\x0a\x01\x07\x00", 24 })
}

func wayBy() api.Msg { return with(way(), func(m *api.Msg) { m.Next = "abcd" }) }

// ack is what acknowledges, of Babel: a TLV of four bytes.
func ack() api.Msg { return api.Msg{Kind: api.Ack, Nonce: 7} }

// opaque is a message of Babel whose TLV has n bytes.
func opaque(n int) api.Msg {
	return api.Msg{Kind: api.Opaque, Type: 11, Data: strings.Repeat("x", n-2)}
}

// opaqueTlv is the bytes of it.
func opaqueTlv(n int) string { return "\x0b" + string([]byte{byte(n - 2)}) + strings.Repeat("x", n-2) }

// wrapped is the datagram of Babel of that body.
func wrapped(body string) string {
	return "\x2a\x02" + string([]byte{byte(len(body) >> 8), byte(len(body))}) + body
}

// alone is a message of a protocol, and its datagram.
type alone struct {
	p     int
	bytes string
	m     api.Msg
}

// alones are such, of each Kind, as they are where nothing stands ahead of them.
func alones() []alone {
	six := "\xb1\xb2\xb3" + strings.Repeat("\x00", 13)
	return []alone{
		{api.Rip, rip1Head + ripEntry1, rip1()},
		{api.Rip, rip2Head + ripEntry2, rip2()},
		{api.Rip, secretHead + ripEntry2, secret()},
		{api.Rip, rip2AskHead + ripEntry2, ripAsk()},
		{api.Rip, rip1AskHead + ripEntryAll, ripAll()},
		{api.Ng, ngHead + ngEntry, ng()},
		{api.Ng, ngHead + ngHop + ngEntry, ngBy()},
		{api.Ng, ngAskHead + ngEntry, ngAsk()},
		{api.Aodv, rreqBytes, rreq()},
		{api.Aodv, rrepBytes, rrep()},
		{api.Aodv, rerrBytes, rerr()},
		{api.Aodv, ackBytes, rrepAck()},
		{api.Aodv, ackBytes + "\x07\x03sss", sized(7)},
		{api.Babel, wrapped("\x02\x06\x00\x00\x01\x02\x03\x04"), api.Msg{Kind: api.AckReq, Nonce: 0x102, Interval: 0x304}},
		{api.Babel, wrapped(ackTlv), ack()},
		{api.Babel, wrapped("\x03\x05\x00\x07\x02\x01a"), with(ack(), func(m *api.Msg) { m.Subs = []api.Sub{{Type: 2, Data: "a"}} })},
		{api.Babel, wrapped("\x04\x06\x80\x00\x00\x01\x00\x64"), api.Msg{Kind: api.Hello, Flags: 1, Seq: 1, Interval: 100}},
		{api.Babel, wrapped("\x05\x0e\x03\x00\x01\x02\x03\x04abcdefgh"), api.Msg{Kind: api.Ihu, Ae: 3, Cost: 0x102, Interval: 0x304, Addr: head + "abcdefgh"}},
		{api.Babel, wrapped(who + wayTlv), way()},
		{api.Babel, wrapped(who + way7Tlv), way7()},
		{api.Babel, wrapped(who + hop + wayTlv), wayBy()},
		{api.Babel, wrapped("\x08\x0a\x00\x00\x00\x00\x01\x02\x03\x04\xff\xff"), api.Msg{Kind: api.Update, Interval: 0x102, Seq: 0x304, Metric: api.Far}},
		{api.Babel, wrapped("\x09\x05\x01\x18\x0a\x01\x02"), api.Msg{Kind: api.RouteReq, Ae: 1, Prefix: "\x0a\x01\x02\x00", Plen: 24}},
		{api.Babel, wrapped("\x0a\x11\x02\x18\x01\x02\x05\x00" + id + "\xb1\xb2\xb3"), api.Msg{Kind: api.SeqnoReq, Ae: 2, Prefix: six, Plen: 24, Seq: 0x102, Hops: 5, Id: id}},
		{api.Babel, wrapped("\x0b\x00"), api.Msg{Kind: api.Opaque, Type: 11}},
		{api.Babel, wrapped("\x0b\x03xxx"), opaque(5)},
	}
}

// wrongs are messages that may not be, of each protocol, and of none.
func wrongs() []api.Msg {
	return []api.Msg{
		{},
		{Kind: -1},
		{Kind: 15},
		{Kind: 1<<32 + api.RrepAck},
		with(rip2(), func(m *api.Msg) { m.Metric = 17 }),
		with(rip1(), func(m *api.Msg) { m.Tag = 1 }),
		with(ripAll(), func(m *api.Msg) { m.Cmd = 2 }),
		with(ng(), func(m *api.Msg) { m.Metric = 0 }),
		with(ng(), func(m *api.Msg) { m.Prefix = "\x0a\x01\x00\x00" }),
		with(rreq(), func(m *api.Msg) { m.Flags = 32 }),
		with(rrep(), func(m *api.Msg) { m.Plen = 32 }),
		with(rerr(), func(m *api.Msg) { m.List = nil }),
		with(rrepAck(), func(m *api.Msg) { m.Subs = []api.Sub{{Type: 256}} }),
		with(way(), func(m *api.Msg) { m.Id = "" }),
		with(ack(), func(m *api.Msg) { m.Seq = 1 }),
		{Kind: api.Opaque, Type: 10},
		opaque(258),
	}
}
