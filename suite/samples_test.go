package suite

import (
	"strings"

	"roadbook/api"
)

const (
	// none is four bytes that are 0, naught sixteen.
	none   = "\x00\x00\x00\x00"
	naught = none + none + none + none
	// said is what an entry of authentication of RIP says.
	said = "\x00\x02abcdefghijklmnop"
	// head is how a link-local address begins.
	head = "\xfe\x80\x00\x00\x00\x00\x00\x00"
	// net is an address whose bits from the 35th on are 0.
	net = "\x20\x01\x0d\xb8\x20\x00\x00\x00\x00\x00\x00\x00\x00\x00\x00\x00"
	// id and otherId are router-ids of Babel.
	id      = "ABCDEFGH"
	otherId = "IJKLMNOP"
	// numbers are the bytes of an Update's Interval, Seq and Metric, far those of
	// one that says that there is no way.
	numbers = "\x01\x02\x03\x04\x05\x06"
	far     = "\x01\x02\x03\x04\xff\xff"
)

// Entries of RIP: of the version 1, of the version 2, and what asks for all of
// the table. Entries of RIPng: a route, a next hop, and one who says so.
const (
	ripEntry1   = "\x00\x02\x00\x00\x0a\x01\x02\x03" + none + none + "\x00\x00\x00\x05"
	ripEntry2   = "\x00\x02\x01\x02\x0a\x01\x02\x00\xff\xff\xfe\x00\x0a\x00\x00\x01\x00\x00\x00\x05"
	ripEntryAll = none + none + none + none + "\x00\x00\x00\x10"
	ngEntry     = net + "\x01\x02\x23\x05"
	ngHop       = head + "abcdefgh\x00\x00\x00\xff"
	ngHopNone   = naught + "\x00\x00\x00\xff"
)

// Datagrams of AODV, one of each Kind.
const (
	rreqBytes = "\x01\x98\x00\xc8\xb1\xb2\xb3\xb4\x0a\x01\x02\x03\xa1\xa2\xa3\xa4\xc0\xa8\x00\x09\xf1\xf2\xf3\xf4"
	rrepBytes = "\x02\x80\x15\xc8\x0a\x01\x02\x03\xa1\xa2\xa3\xa4\xc0\xa8\x00\x09\xf1\xf2\xf3\xf4"
	rerrBytes = "\x03\x80\x00\x02\x0a\x01\x02\x03\xa1\xa2\xa3\xa4\xc0\xa8\x00\x09\xf1\xf2\xf3\xf4"
	ackBytes  = "\x04\x00"
)

// sample is a datagram of a protocol, and the messages that it is read as.
type sample struct {
	p     int
	bytes string
	l     []api.Msg
}

// many is l, n times over.
func many(n int, l ...api.Msg) []api.Msg {
	var all []api.Msg
	for range n {
		all = append(all, l...)
	}
	return all
}

// with is m with what change sets.
func with(m api.Msg, change func(m *api.Msg)) api.Msg {
	change(&m)
	return m
}

// rip1, rip2, secret and all are what the entries of RIP say: of the version 1,
// of the version 2, behind an entry of authentication, and of all of the table.
func rip1() api.Msg {
	return api.Msg{Kind: api.RipRoute, Cmd: 2, Ver: 1, Family: 2, Prefix: "\x0a\x01\x02\x03", Plen: 32, Next: none, Metric: 5}
}

func rip2() api.Msg {
	return api.Msg{Kind: api.RipRoute, Cmd: 2, Ver: 2, Family: 2, Tag: 258, Prefix: "\x0a\x01\x02\x00", Plen: 23, Next: "\x0a\x00\x00\x01", Metric: 5}
}

func secret() api.Msg { return with(rip2(), func(m *api.Msg) { m.Auth = said }) }

func all() api.Msg {
	return api.Msg{Kind: api.RipRoute, Cmd: 1, Ver: 1, Prefix: none, Next: none, Metric: 16}
}

// ng is a route of RIPng, ngBy the same by a next hop.
func ng() api.Msg {
	return api.Msg{Kind: api.NgRoute, Cmd: 2, Tag: 258, Prefix: net, Plen: 35, Next: naught, Metric: 5}
}

func ngBy() api.Msg { return with(ng(), func(m *api.Msg) { m.Next = head + "abcdefgh" }) }

// aodvs are a message of AODV of each Kind, as their datagrams are told above.
func aodvs() []api.Msg {
	return []api.Msg{
		{Kind: api.Rreq, Flags: 19, Hops: 200, Nonce: 0xb1b2b3b4, Addr: "\x0a\x01\x02\x03", Seq: 0xa1a2a3a4, Orig: "\xc0\xa8\x00\x09", Seq2: 0xf1f2f3f4},
		{Kind: api.Rrep, Flags: 2, Plen: 21, Hops: 200, Addr: "\x0a\x01\x02\x03", Seq: 0xa1a2a3a4, Orig: "\xc0\xa8\x00\x09", Interval: 0xf1f2f3f4},
		{Kind: api.Rerr, Flags: 1, List: []api.Dest{{Addr: "\x0a\x01\x02\x03", Seq: 0xa1a2a3a4}, {Addr: "\xc0\xa8\x00\x09", Seq: 0xf1f2f3f4}}},
		{Kind: api.RrepAck},
	}
}

// way is an Update of 10.1.0.0/16, by id.
func way() api.Msg {
	return api.Msg{Kind: api.Update, Ae: 1, Prefix: "\x0a\x01\x00\x00", Plen: 16, Interval: 0x102, Seq: 0x304, Metric: 0x506, Id: id}
}

// way7 is an Update of 10.1.7.0/24, by id.
func way7() api.Msg {
	return with(way(), func(m *api.Msg) { m.Prefix, m.Plen = "\x0a\x01\x07\x00", 24 })
}

// tlv is a message of Babel, and its bytes where nothing is known.
type tlv struct {
	bytes string
	m     api.Msg
}

// tlvs are messages of Babel of each Kind and encoding.
func tlvs() []tlv {
	const link = head + "\xc1\xc2\xc3\x00\x00\x00\x00\x00"
	six := "\xb1\xb2\xb3" + strings.Repeat("\x00", 13)
	return []tlv{
		{"\x02\x06\x00\x00\x01\x02\x03\x04", api.Msg{Kind: api.AckReq, Nonce: 0x102, Interval: 0x304}},
		{"\x03\x02\x00\x07", api.Msg{Kind: api.Ack, Nonce: 7}},
		{"\x03\x05\x00\x07\x02\x01a", api.Msg{Kind: api.Ack, Nonce: 7, Subs: []api.Sub{{Type: 2, Data: "a"}}}},
		{"\x04\x06\x80\x00\x00\x01\x00\x64", api.Msg{Kind: api.Hello, Flags: 1, Seq: 1, Interval: 100}},
		{"\x05\x06\x00\x00\x01\x02\x03\x04", api.Msg{Kind: api.Ihu, Cost: 0x102, Interval: 0x304}},
		{"\x05\x0a\x01\x00\x01\x02\x03\x04abcd", api.Msg{Kind: api.Ihu, Ae: 1, Cost: 0x102, Interval: 0x304, Addr: "abcd"}},
		{"\x05\x0e\x03\x00\x01\x02\x03\x04abcdefgh", api.Msg{Kind: api.Ihu, Ae: 3, Cost: 0x102, Interval: 0x304, Addr: head + "abcdefgh"}},
		{"\x08\x0a\x00\x00\x00\x00" + far, api.Msg{Kind: api.Update, Interval: 0x102, Seq: 0x304, Metric: api.Far}},
		{"\x06\x0a\x00\x00" + id + "\x08\x0c\x01\x80\x10\x00" + numbers + "\x0a\x01", way()},
		{"\x08\x0d\x02\x80\x18\x00" + far + "\xb1\xb2\xb3", api.Msg{Kind: api.Update, Ae: 2, Prefix: six, Plen: 24, Interval: 0x102, Seq: 0x304, Metric: api.Far}},
		{"\x06\x0a\x00\x00" + id + "\x07\x0a\x03\x00abcdefgh\x08\x0d\x03\x80\x58\x00" + numbers + "\xc1\xc2\xc3",
			api.Msg{Kind: api.Update, Ae: 3, Prefix: link, Plen: 88, Interval: 0x102, Seq: 0x304, Metric: 0x506, Id: id, Next: head + "abcdefgh"}},
		{"\x09\x02\x00\x00", api.Msg{Kind: api.RouteReq}},
		{"\x09\x05\x01\x18\x0a\x01\x02", api.Msg{Kind: api.RouteReq, Ae: 1, Prefix: "\x0a\x01\x02\x00", Plen: 24}},
		{"\x0a\x11\x02\x18\x01\x02\x05\x00" + id + "\xb1\xb2\xb3", api.Msg{Kind: api.SeqnoReq, Ae: 2, Prefix: six, Plen: 24, Seq: 0x102, Hops: 5, Id: id}},
		{"\x0b\x00", api.Msg{Kind: api.Opaque, Type: 11}},
		{"\xff\x03abc", api.Msg{Kind: api.Opaque, Type: 255, Data: "abc"}},
	}
}

// samples are datagrams as they are written, of each protocol: of no messages,
// where there may be none, of one and of many.
func samples() []sample {
	l := ripSamples()
	l = append(l, ngSamples()...)
	l = append(l, aodvSamples()...)
	return append(l, babelSamples()...)
}

func ripSamples() []sample {
	ask := with(rip2(), func(m *api.Msg) { m.Cmd = 1 })
	return []sample{
		{api.Rip, "\x02\x01\x00\x00" + ripEntry1, []api.Msg{rip1()}},
		{api.Rip, "\x02\x02\x00\x00" + ripEntry2, []api.Msg{rip2()}},
		{api.Rip, "\x01\x02\x00\x00" + ripEntry2, []api.Msg{ask}},
		{api.Rip, "\x01\x01\x00\x00" + ripEntryAll, []api.Msg{all()}},
		{api.Rip, "\x02\x02\x00\x00\xff\xff" + said + ripEntry2, []api.Msg{secret()}},
		{api.Rip, "\x02\x01\x00\x00" + strings.Repeat(ripEntry1, 2), many(2, rip1())},
		{api.Rip, "\x02\x02\x00\x00" + strings.Repeat(ripEntry2, 25), many(25, rip2())},
		{api.Rip, "\x02\x02\x00\x00\xff\xff" + said + strings.Repeat(ripEntry2, 24), many(24, secret())},
	}
}

func ngSamples() []sample {
	ask := with(ng(), func(m *api.Msg) { m.Cmd = 1 })
	return []sample{
		{api.Ng, "\x02\x01\x00\x00" + ngEntry, []api.Msg{ng()}},
		{api.Ng, "\x01\x01\x00\x00" + ngEntry, []api.Msg{ask}},
		{api.Ng, "\x02\x01\x00\x00" + ngHop + ngEntry, []api.Msg{ngBy()}},
		{api.Ng, "\x02\x01\x00\x00" + ngHop + ngEntry + ngEntry, many(2, ngBy())},
		{api.Ng, "\x02\x01\x00\x00" + ngEntry + ngHop + ngEntry + ngHopNone + ngEntry, []api.Msg{ng(), ngBy(), ng()}},
		{api.Ng, "\x02\x01\x00\x00" + strings.Repeat(ngEntry, 3276), many(3276, ng())},
	}
}

func aodvSamples() []sample {
	var l []sample
	for i, b := range []string{rreqBytes, rrepBytes, rerrBytes, ackBytes} {
		m := aodvs()[i]
		l = append(l, sample{api.Aodv, b, []api.Msg{m}})
		m.Subs = []api.Sub{{Type: 1, Data: "abcd"}, {Type: 255}}
		l = append(l, sample{api.Aodv, b + "\x01\x04abcd\xff\x00", []api.Msg{m}})
	}
	// Of what acknowledges, with as many bytes as a datagram may have.
	m := api.Msg{Kind: api.RrepAck, Subs: []api.Sub{{Type: 7, Data: strings.Repeat("s", 254)}}}
	for range 255 {
		m.Subs = append(m.Subs, api.Sub{Type: 8, Data: strings.Repeat("x", 254)})
	}
	m.Subs[255].Data = strings.Repeat("x", 251)
	long := ackBytes + "\x07\xfe" + strings.Repeat("s", 254) + strings.Repeat("\x08\xfe"+strings.Repeat("x", 254), 254) + "\x08\xfb" + strings.Repeat("x", 251)
	return append(l, sample{api.Aodv, long, []api.Msg{m}})
}

func babelSamples() []sample {
	l := []sample{
		{api.Babel, "\x2a\x02\x00\x00", nil},
		{api.Babel, "\x2a\x02\x00\x27\x06\x0a\x00\x00" + id + "\x08\x0c\x01\x80\x10\x00" + numbers + "\x0a\x01\x08\x0b\x01\x80\x18\x02" + numbers + "\x07",
			[]api.Msg{way(), way7()}},
		{api.Babel, "\x2a\x02\xff\xfb" + strings.Repeat("\x03\x02\x00\x07", 16382) + "\x0b\x01a", append(many(16382, api.Msg{Kind: api.Ack, Nonce: 7}), api.Msg{Kind: api.Opaque, Type: 11, Data: "a"})},
	}
	for _, v := range tlvs() {
		l = append(l, sample{api.Babel, wrapped(v.bytes), []api.Msg{v.m}})
	}
	return l
}

// wrapped is the datagram of Babel of that body.
func wrapped(body string) string {
	return "\x2a\x02" + string([]byte{byte(len(body) >> 8), byte(len(body))}) + body
}

// rewritten is bytes that are read, and come otherwise when they are written.
type rewritten struct {
	p             int
	bytes, rather string
	l             []api.Msg
}

// rewrittens are such, of the protocols that have them.
func rewrittens() []rewritten {
	const who, otherWho = "\x06\x0a\x00\x00" + id, "\x06\x0a\x00\x00" + otherId
	const update, written = "\x08\x0c\x01\x00\x10\x00" + numbers + "\x0a\x01", "\x08\x0c\x01\x80\x10\x00" + numbers + "\x0a\x01"
	lies := with(way(), func(m *api.Msg) { m.Id = "\x00\x00\x00\x00\x0a\x01\x00\x00" })
	return []rewritten{
		{api.Ng, "\x02\x01\x00\x00" + net + "\x00\x00\x00\xff" + ngEntry, "\x02\x01\x00\x00" + ngEntry, []api.Msg{ng()}},
		{api.Ng, "\x02\x01\x00\x00" + ngHop + ngHopNone + ngEntry + ngHop, "\x02\x01\x00\x00" + ngEntry, []api.Msg{ng()}},
		{api.Ng, "\x02\x01\x00\x00" + ngHop + ngEntry + ngHop + ngEntry, "\x02\x01\x00\x00" + ngHop + ngEntry + ngEntry, many(2, ngBy())},
		{api.Babel, wrapped("\x00\x01\x02ab\x00"), wrapped(""), nil},
		{api.Babel, wrapped(otherWho) + update, wrapped(""), nil},
		{api.Babel, wrapped("\x03\x02\x00\x07") + "\x03\x02\x00\x08", wrapped("\x03\x02\x00\x07"), []api.Msg{{Kind: api.Ack, Nonce: 7}}},
		{api.Babel, wrapped(otherWho + who + update + who + update), wrapped(who + written + "\x08\x0a\x01\x80\x10\x02" + numbers), many(2, way())},
		{api.Babel, wrapped(who + "\x08\x0e\x01\x80\x10\x00" + numbers + "\x0a\x01\x80\x00\x08\x0b\x01\x00\x18\x02" + numbers + "\x07"),
			wrapped(who + "\x08\x0d\x01\x80\x18\x00" + numbers + "\x0a\x01\x07"), []api.Msg{way7()}},
		{api.Babel, wrapped("\x08\x0c\x01\x40\x10\x00" + numbers + "\x0a\x01"), wrapped("\x06\x0a\x00\x00" + lies.Id + written), []api.Msg{lies}},
	}
}

// owned is a message, and the protocol that it is of; 0, if it is of none.
type owned struct {
	p int
	m api.Msg
}

// goods are messages that may be, of each Kind.
func goods() []owned {
	var l []owned
	for _, s := range samples() {
		for _, m := range s.l[:min(len(s.l), 3)] {
			l = append(l, owned{s.p, m})
		}
	}
	return l
}

// bads are messages that may not be, of each Kind, and of Kinds that there
// aren't.
func bads() []owned {
	l := []owned{
		{0, api.Msg{}},
		{0, api.Msg{Kind: -1}},
		{0, api.Msg{Kind: 15}},
		{0, api.Msg{Kind: 1<<32 + api.RrepAck}},
		{api.Rip, with(rip2(), func(m *api.Msg) { m.Metric = 17 })},
		{api.Rip, with(rip1(), func(m *api.Msg) { m.Tag = 1 })},
		{api.Rip, with(all(), func(m *api.Msg) { m.Cmd = 2 })},
		{api.Ng, with(ng(), func(m *api.Msg) { m.Metric = 0 })},
		{api.Ng, with(ng(), func(m *api.Msg) { m.Ver = 1 })},
		{api.Aodv, with(aodvs()[0], func(m *api.Msg) { m.Flags = 32 })},
		{api.Aodv, with(aodvs()[1], func(m *api.Msg) { m.Plen = 32 })},
		{api.Aodv, with(aodvs()[2], func(m *api.Msg) { m.List = nil })},
		{api.Aodv, with(aodvs()[3], func(m *api.Msg) { m.Subs = []api.Sub{{Type: 256}} })},
		{api.Babel, api.Msg{Kind: api.AckReq, Nonce: 65536}},
		{api.Babel, api.Msg{Kind: api.Ack, Seq: 1}},
		{api.Babel, api.Msg{Kind: api.Hello, Flags: 2}},
		{api.Babel, api.Msg{Kind: api.Ihu, Ae: 4}},
		{api.Babel, with(way(), func(m *api.Msg) { m.Id = "" })},
		{api.Babel, api.Msg{Kind: api.RouteReq, Ae: 1, Prefix: "\x0a\x01\x02\x03", Plen: 24}},
		{api.Babel, api.Msg{Kind: api.SeqnoReq, Ae: 1, Prefix: "\x0a\x01\x02\x03", Plen: 32, Id: id}},
		{api.Babel, api.Msg{Kind: api.Opaque, Type: 10}},
	}
	// Those that may be, with a field that their Kind hasn't.
	for _, v := range goods() {
		if v.m.Kind == api.Opaque {
			v.m.Hops = 1
		} else {
			v.m.Data = "a"
		}
		l = append(l, v)
	}
	return l
}
