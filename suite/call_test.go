package suite

import (
	"slices"
	"strings"
	"testing"

	"roadbook/api"
)

// Messages of each protocol have the datagrams that its chapter gives them, and
// are read of them.
func TestP26_1Samples(t *testing.T) {
	for _, s := range samples() {
		checkRead(t, s.p, s.bytes, s.l)
		checkWritten(t, s.p, s.l, s.bytes)
		for _, m := range s.l[:min(len(s.l), 30)] {
			checkRight(t, s.p, m, true)
		}
	}
}

// What isn't written as it was read: each protocol's own way of writing is
// asked for.
func TestP26_1Rewrittens(t *testing.T) {
	for _, v := range rewrittens() {
		checkRead(t, v.p, v.bytes, v.l)
		checkWritten(t, v.p, v.l, v.rather)
	}
}

// The numbers of the protocols.
func TestP26_1Numbers(t *testing.T) {
	checkRead(t, 1, "\x02\x02\x00\x00"+ripEntry2, []api.Msg{rip2()})
	checkRead(t, 2, "\x02\x01\x00\x00"+ngEntry, []api.Msg{ng()})
	checkRead(t, 3, ackBytes, []api.Msg{{Kind: api.RrepAck}})
	checkRead(t, 4, "\x2a\x02\x00\x00", nil)
	checkWritten(t, 1, []api.Msg{rip2()}, "\x02\x02\x00\x00"+ripEntry2)
	checkWritten(t, 2, []api.Msg{ng()}, "\x02\x01\x00\x00"+ngEntry)
	checkWritten(t, 3, []api.Msg{{Kind: api.RrepAck}}, ackBytes)
	checkWritten(t, 4, nil, "\x2a\x02\x00\x00")
}

// Samples have messages of all Kinds, so that what is asked of them all is asked
// of each Kind.
func TestP26_1AllKinds(t *testing.T) {
	owner := []int{0, 1, 2, 3, 3, 3, 3, 4, 4, 4, 4, 4, 4, 4, 4}
	for _, l := range [][]owned{goods(), bads()} {
		seen := map[int]bool{}
		for _, v := range l {
			seen[v.m.Kind] = true
			if v.p != 0 && owner[v.m.Kind] != v.p {
				t.Errorf("%s is not of the protocol %d", sketch(v.m), v.p)
			}
		}
		for kind := 1; kind <= api.LastOfKind; kind++ {
			if !seen[kind] {
				t.Errorf("there is none of the Kind %d", kind)
			}
		}
	}
}

// One that may be is asked of its own protocol and of every other; alone, and
// among those of the other.
func TestP26_1RightGood(t *testing.T) {
	for _, v := range goods() {
		for _, p := range protocols {
			checkRight(t, p, v.m, p == v.p)
			if p != v.p {
				checkUnwritten(t, p, []api.Msg{v.m}, 0, api.ErrArg)
			} else {
				checkEncode(t, p, []api.Msg{v.m})
			}
		}
	}
}

// One that may not be, too.
func TestP26_1RightBad(t *testing.T) {
	for _, v := range bads() {
		for _, p := range protocols {
			checkRight(t, p, v.m, false)
			checkUnwritten(t, p, []api.Msg{v.m}, 0, api.ErrArg)
		}
	}
}

// A message that may be, with another Kind, is what the layer of that one says.
func TestP26_1RightOtherKind(t *testing.T) {
	for _, v := range slices.Concat(goods(), bads()) {
		for kind := -1; kind <= api.LastOfKind+1; kind++ {
			m := with(v.m, func(m *api.Msg) { m.Kind = kind })
			for _, p := range protocols {
				checkRight(t, p, m, layerRight(p, m))
				checkEncode(t, p, []api.Msg{m})
			}
		}
	}
}

// Of no protocol: whatever is asked, also what would have another error, or
// another place, of each protocol that there is.
func TestP26_1NoProtocol(t *testing.T) {
	for _, p := range strangers {
		for _, v := range slices.Concat(goods(), bads()) {
			checkRight(t, p, v.m, false)
			checkUnwritten(t, p, []api.Msg{v.m}, 0, api.ErrArg)
		}
		for _, s := range samples() {
			checkUnread(t, p, s.bytes, 0, api.ErrArg)
			checkUnwritten(t, p, s.l, 0, api.ErrArg)
			checkUnwritten(t, p, append(slices.Clone(s.l), api.Msg{}), 0, api.ErrArg)
		}
		for _, b := range []string{"", "\x00", "\x2a", "\x02\x02\x00\x00a", strings.Repeat("\x02", 65536)} {
			checkUnread(t, p, b, 0, api.ErrArg)
		}
		for _, l := range [][]api.Msg{nil, {}, make([]api.Msg, 2, 4), {rip2(), ng()}, many(30, rip2())} {
			checkUnwritten(t, p, l, 0, api.ErrArg)
		}
	}
}

// Errors of reading are those of the protocol's layer, at its places.
func TestP26_1ParseErrors(t *testing.T) {
	long := strings.Repeat("\x00", 65536)
	for _, v := range []struct {
		p   int
		b   string
		at  int
		err api.Errno
	}{
		{api.Rip, "", 0, api.ErrShort},
		{api.Rip, "\x02\x02\x00", 3, api.ErrShort},
		{api.Rip, "\x03\x02\x00\x00" + ripEntry2, 0, api.ErrKind},
		{api.Rip, "\x02\x03\x00\x00" + ripEntry2, 1, api.ErrKind},
		{api.Rip, "\x02\x02\x00\x01" + ripEntry2, 2, api.ErrZero},
		{api.Rip, "\x02\x02\x00\x00" + ripEntry2[:19], 23, api.ErrShort},
		{api.Rip, "\x02\x02\x00\x00", 4, api.ErrCount},
		{api.Rip, "\x02\x02\x00\x00" + strings.Repeat(ripEntry2, 26), 504, api.ErrCount},
		{api.Rip, "\x02\x02\x00\x00\xff\xff" + said, 24, api.ErrCount},
		{api.Rip, "\x02\x02\x00\x00" + ripEntry2 + ripEntry2[:19] + "\x11", 24, api.ErrRange},
		{api.Rip, "\x02\x02\x00\x00" + ripEntry2 + ripEntryAll, 24, api.ErrForm},
		{api.Ng, "", 0, api.ErrShort},
		{api.Ng, "\x02\x02\x00\x00" + ngEntry, 1, api.ErrKind},
		{api.Ng, "\x02\x01\x00\x00", 4, api.ErrCount},
		{api.Ng, "\x02\x01\x00\x00" + ngEntry + ngEntry[:19] + "\x11", 24, api.ErrRange},
		{api.Ng, "\x02\x01\x00\x00" + ngHop, 24, api.ErrCount},
		{api.Ng, long, 65535, api.ErrLong},
		{api.Aodv, "", 0, api.ErrShort},
		{api.Aodv, "\x05\x00", 0, api.ErrKind},
		{api.Aodv, "\x00", 0, api.ErrKind},
		{api.Aodv, "\x04", 1, api.ErrShort},
		{api.Aodv, "\x04\x01", 1, api.ErrZero},
		{api.Aodv, "\x04\x00\x01\x02a", 2, api.ErrShort},
		{api.Aodv, "\x03\x00\x00\x00", 3, api.ErrCount},
		{api.Aodv, long, 65535, api.ErrLong},
		{api.Babel, "", 0, api.ErrShort},
		{api.Babel, "\x2b\x02\x00\x00", 0, api.ErrKind},
		{api.Babel, "\x2a\x03\x00\x00", 1, api.ErrKind},
		{api.Babel, "\x2a\x02\x00\x05\x00\x03\x02\x00", 8, api.ErrShort},
		{api.Babel, "\x2a\x02\x00\x05\x00\x03\x03\x00\x07", 5, api.ErrShort},
		{api.Babel, "\x2a\x02\x00\x01\x00\x03", 5, api.ErrShort},
		{api.Babel, "\x2a\x02\x00\x0e\x00\x08\x0b\x01\x00\x18\x02" + numbers + "\x07", 5, api.ErrCtx},
		{api.Babel, long, 65535, api.ErrLong},
	} {
		checkUnread(t, v.p, v.b, v.at, v.err)
	}
}

// Errors of writing are those of the protocol's layer, at its places.
func TestP26_1EncodeErrors(t *testing.T) {
	ask := with(rip2(), func(m *api.Msg) { m.Cmd = 1 })
	ngAsk := with(ng(), func(m *api.Msg) { m.Cmd = 1 })
	ack, hello := api.Msg{Kind: api.RrepAck}, api.Msg{Kind: api.Hello}
	tooLong := with(ack, func(m *api.Msg) { m.Subs = slices.Repeat([]api.Sub{{Data: strings.Repeat("x", 255)}}, 256) })
	unsaid := with(way(), func(m *api.Msg) { m.Next = "abcd" })
	for _, v := range []struct {
		p   int
		l   []api.Msg
		at  int
		err api.Errno
	}{
		{api.Rip, nil, 0, api.ErrCount},
		{api.Rip, []api.Msg{rip2(), ask}, 1, api.ErrForm},
		{api.Rip, []api.Msg{rip2(), rip2(), rip1()}, 2, api.ErrForm},
		{api.Rip, many(26, rip2()), 25, api.ErrCount},
		{api.Rip, many(25, secret()), 24, api.ErrCount},
		{api.Rip, append(many(26, rip2()), api.Msg{}), 26, api.ErrArg},
		{api.Ng, nil, 0, api.ErrCount},
		{api.Ng, []api.Msg{ng(), ngBy(), ngAsk}, 2, api.ErrForm},
		{api.Ng, many(3277, ng()), 3276, api.ErrLong},
		{api.Ng, many(820, ng(), ngBy()), 1638, api.ErrLong},
		{api.Aodv, nil, 0, api.ErrCount},
		{api.Aodv, []api.Msg{ack, ack, ack}, 1, api.ErrCount},
		{api.Aodv, []api.Msg{ack, ack, hello}, 2, api.ErrArg},
		{api.Aodv, []api.Msg{tooLong}, 0, api.ErrLong},
		{api.Babel, []api.Msg{hello, unsaid, way()}, 2, api.ErrCtx},
		{api.Babel, []api.Msg{unsaid, way(), ack}, 2, api.ErrArg},
		{api.Babel, many(8192, hello), 8191, api.ErrLong},
	} {
		checkUnwritten(t, v.p, v.l, v.at, v.err)
	}
}

// No messages are a datagram of Babel alone.
func TestP26_1NoMessages(t *testing.T) {
	for _, l := range [][]api.Msg{nil, {}, make([]api.Msg, 0, 4)} {
		checkWritten(t, api.Babel, l, "\x2a\x02\x00\x00")
		for _, p := range []int{api.Rip, api.Ng, api.Aodv} {
			checkUnwritten(t, p, l, 0, api.ErrCount)
		}
	}
}

// Messages of two protocols: the first one that is of another is told, whichever
// of both is asked, and the first of all by a third.
func TestP26_1TwoProtocols(t *testing.T) {
	all := goods()
	for _, a := range all {
		for _, b := range all {
			if a.p == b.p {
				continue
			}
			for _, p := range protocols {
				at := 0
				if p == a.p {
					at = 1
				}
				checkUnwritten(t, p, []api.Msg{a.m, b.m}, at, api.ErrArg)
			}
			checkUnwritten(t, a.p, []api.Msg{a.m, a.m, a.m, b.m, a.m, b.m}, 3, api.ErrArg)
		}
	}
	for _, s := range samples() {
		for _, v := range slices.Concat([]api.Msg{{}}, []api.Msg{rip2(), ng(), {Kind: api.RrepAck}, {Kind: api.Hello}}) {
			if !Right(s.p, v) {
				checkUnwritten(t, s.p, append(slices.Clone(s.l), v), len(s.l), api.ErrArg)
			}
		}
	}
}

// A datagram of one protocol, read as those of every other.
func TestP26_1OthersBytes(t *testing.T) {
	for _, v := range []struct {
		b   string
		p   int
		at  int
		err api.Errno
	}{
		{"\x02\x02\x00\x00" + ripEntry2, api.Ng, 1, api.ErrKind},
		{"\x02\x02\x00\x00" + ripEntry2, api.Aodv, 1, api.ErrZero},
		{"\x02\x02\x00\x00" + ripEntry2, api.Babel, 0, api.ErrKind},
		{"\x02\x01\x00\x00" + ripEntry1, api.Ng, 4, api.ErrForm},
		{"\x01\x01\x00\x00" + ripEntryAll, api.Aodv, 1, api.ErrZero},
		{"\x02\x01\x00\x00" + ngEntry, api.Rip, 4, api.ErrKind},
		{"\x02\x01\x00\x00" + ngEntry, api.Aodv, 1, api.ErrZero},
		{"\x02\x01\x00\x00" + ngEntry, api.Babel, 0, api.ErrKind},
		{rreqBytes, api.Rip, 1, api.ErrKind},
		{rrepBytes, api.Ng, 1, api.ErrKind},
		{rerrBytes, api.Rip, 0, api.ErrKind},
		{rerrBytes, api.Babel, 0, api.ErrKind},
		{ackBytes, api.Rip, 2, api.ErrShort},
		{ackBytes, api.Ng, 2, api.ErrShort},
		{ackBytes, api.Babel, 2, api.ErrShort},
		{"\x2a\x02\x00\x00", api.Rip, 0, api.ErrKind},
		{"\x2a\x02\x00\x00", api.Ng, 0, api.ErrKind},
		{"\x2a\x02\x00\x00", api.Aodv, 0, api.ErrKind},
	} {
		checkUnread(t, v.p, v.b, v.at, v.err)
	}
	for _, s := range samples() {
		for _, p := range protocols {
			checkParse(t, p, s.bytes)
		}
	}
}

// The same bytes may be a datagram of two protocols, of other messages each.
func TestP26_1SameBytes(t *testing.T) {
	const b = "\x01\x01\x00\x00" + ripEntryAll
	ask := api.Msg{Kind: api.NgRoute, Cmd: 1, Prefix: naught, Next: naught, Metric: 16}
	checkRead(t, api.Rip, b, []api.Msg{all()})
	checkRead(t, api.Ng, b, []api.Msg{ask})
	checkWritten(t, api.Rip, []api.Msg{all()}, b)
	checkWritten(t, api.Ng, []api.Msg{ask}, b)
	checkUnwritten(t, api.Rip, []api.Msg{ask}, 0, api.ErrArg)
	checkUnwritten(t, api.Ng, []api.Msg{all()}, 0, api.ErrArg)
}
