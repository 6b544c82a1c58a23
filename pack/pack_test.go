package pack

import (
	"math"
	"slices"
	"strings"
	"testing"

	"roadbook/api"
)

// Of no protocol: whatever is asked, also what would have another place, and no
// messages.
func TestP27_1PackNoProtocol(t *testing.T) {
	lists := [][]api.Msg{nil, {}, make([]api.Msg, 0, 3), {rip2(), ng()}, {rip2(), {}}, {{}, {}}, many(30, rip2())}
	for _, v := range alones() {
		lists = append(lists, []api.Msg{v.m}, []api.Msg{v.m, v.m, {}})
	}
	for _, p := range strangers {
		for _, l := range lists {
			for _, most := range sizes {
				checkError(t, p, l, most, 0, api.ErrArg)
			}
		}
	}
}

// No messages have no datagrams, whatever the size.
func TestP27_1PackNone(t *testing.T) {
	for _, l := range [][]api.Msg{nil, {}, make([]api.Msg, 0, 4)} {
		for _, p := range protocols {
			for _, most := range sizes {
				checkPack(t, p, l, most)
			}
		}
	}
}

// One message has its own datagram, where as many bytes may be; else it is too
// long. Of another protocol it is a message that may not be.
func TestP27_1PackOne(t *testing.T) {
	for _, v := range alones() {
		l := []api.Msg{v.m}
		n := len(v.bytes)
		for _, most := range []int{n, n + 1, 65535, 65536, math.MaxInt} {
			checkPack(t, v.p, l, most, v.bytes)
		}
		for _, most := range []int{n - 1, 1, 0, -1, -n, -1<<32 + n, math.MinInt} {
			checkError(t, v.p, l, most, 0, api.ErrSmall)
		}
		for _, p := range protocols {
			for _, most := range sizes {
				if p != v.p {
					checkError(t, p, l, most, 0, api.ErrArg)
				}
			}
		}
	}
}

// Routes of RIP: by how many bytes there may be, up to as many as stand together.
func TestP27_1PackRip(t *testing.T) {
	const one, two = rip2Head + ripEntry2, rip2Head + ripEntry2 + ripEntry2
	three := many(3, rip2())
	checkPack(t, 1, three, 24, one, one, one)
	checkPack(t, 1, three, 43, one, one, one)
	checkPack(t, 1, three, 44, two, one)
	checkPack(t, 1, three, 63, two, one)
	checkPack(t, 1, three, 64, two+ripEntry2)
	checkPack(t, 1, three, math.MaxInt, two+ripEntry2)
	for _, most := range []int{23, 4, 1, 0, -1, -44, math.MinInt} {
		checkError(t, 1, three, most, 0, api.ErrSmall)
	}
	full := rip2Head + strings.Repeat(ripEntry2, 25)
	checkPack(t, 1, many(25, rip2()), 504, full)
	checkPack(t, 1, many(26, rip2()), 504, full, one)
	checkPack(t, 1, many(52, rip2()), math.MaxInt, full, full, two)
	checkPack(t, 1, many(25, rip2()), 503, rip2Head+strings.Repeat(ripEntry2, 24), one)
	secrets := secretHead + strings.Repeat(ripEntry2, 24)
	checkPack(t, 1, many(25, secret()), 65535, secrets, secretHead+ripEntry2)
	checkPack(t, 1, many(3, secret()), 64, secretHead+ripEntry2+ripEntry2, secretHead+ripEntry2)
	checkError(t, 1, many(3, secret()), 43, 0, api.ErrSmall)
}

// Routes of RIP that don't stand together begin another datagram, and those
// behind them go with it.
func TestP27_1PackRipApart(t *testing.T) {
	const one, all = rip2Head + ripEntry2, rip1AskHead + ripEntryAll
	checkPack(t, 1, []api.Msg{rip2(), ripAsk(), ripAsk(), rip2(), rip2()}, 1000, one, rip2AskHead+ripEntry2+ripEntry2, one+ripEntry2)
	checkPack(t, 1, []api.Msg{rip2(), rip1(), rip1(), rip2()}, 1000, one, rip1Head+ripEntry1+ripEntry1, one)
	checkPack(t, 1, []api.Msg{secret(), rip2(), secret(), secret()}, 1000, secretHead+ripEntry2, one, secretHead+ripEntry2+ripEntry2)
	checkPack(t, 1, []api.Msg{ripAll(), ripAll(), rip2(), ripAll(), ripAll()}, 1000, all, all, one, all, all)
	other := with(secret(), func(m *api.Msg) { m.Auth = "\x00\x03abcdefghijklmnop" })
	checkPack(t, 1, []api.Msg{secret(), other}, 1000, secretHead+ripEntry2, rip2Head+"\xff\xff"+other.Auth+ripEntry2)
}

// Routes of RIPng: a next hop is said again in each datagram.
func TestP27_1PackNg(t *testing.T) {
	const one, by = ngHead + ngEntry, ngHead + ngHop + ngEntry
	checkPack(t, 2, many(3, ng()), 44, one+ngEntry, one)
	checkPack(t, 2, many(3, ng()), 43, one, one, one)
	checkPack(t, 2, many(3, ngBy()), 64, by+ngEntry, by)
	checkPack(t, 2, many(3, ngBy()), 63, by, by, by)
	checkPack(t, 2, []api.Msg{ngBy(), ng(), ng()}, 84, by+ngHopNone+ngEntry, one)
	checkPack(t, 2, []api.Msg{ngBy(), ng(), ng()}, 83, by, one+ngEntry)
	checkPack(t, 2, []api.Msg{ng(), ngBy(), ngBy()}, 64, one+ngHop+ngEntry, by)
	checkPack(t, 2, []api.Msg{ng(), ngBy(), ngBy()}, 63, one, by, by)
	checkPack(t, 2, []api.Msg{ng(), ngAsk(), ngAsk(), ng()}, 65535, one, ngAskHead+ngEntry+ngEntry, one)
	full := ngHead + strings.Repeat(ngEntry, 3276)
	checkPack(t, 2, many(3277, ng()), math.MaxInt, full, one)
	checkPack(t, 2, many(6552, ng()), 65524, full, full)
	checkPack(t, 2, many(3276, ng()), 65523, ngHead+strings.Repeat(ngEntry, 3275), one)
	// One by a next hop is longer alone than behind another one.
	checkFits(t, 2, many(2, ngBy()), 64, true)
	checkError(t, 2, []api.Msg{ng(), ngBy(), ngBy()}, 43, 1, api.ErrSmall)
}

// Messages of AODV never go together.
func TestP27_1PackAodv(t *testing.T) {
	l := []api.Msg{rreq(), rrep(), rrepAck(), rerr(), rrepAck(), rrepAck()}
	for _, most := range []int{24, 48, 65535, math.MaxInt} {
		checkPack(t, 3, l, most, rreqBytes, rrepBytes, ackBytes, rerrBytes, ackBytes, ackBytes)
	}
	checkError(t, 3, l, 23, 0, api.ErrSmall)
	checkError(t, 3, l, 1, 0, api.ErrSmall)
	checkError(t, 3, l[1:], 19, 0, api.ErrSmall)
	checkError(t, 3, l[2:], 19, 1, api.ErrSmall)
	checkPack(t, 3, l[4:], 2, ackBytes, ackBytes)
}

// One that is longer than any datagram doesn't fit into any size.
func TestP27_1PackTooLong(t *testing.T) {
	longest := append([]api.Msg{rrepAck()}, sized(65535))
	d, _, err := Pack(3, longest, 65535)
	if err != api.OK || len(d) != 2 || d[0] != ackBytes || len(d[1]) != 65535 {
		t.Errorf("%d datagrams, error %d", len(d), err)
	}
	checkAll(t, 3, longest, 65535)
	checkError(t, 3, longest, 65534, 1, api.ErrSmall)
	for _, n := range []int{65536, 65537, 70000} {
		for _, most := range []int{0, 65535, 65536, 1 << 32, math.MaxInt} {
			at := 1
			if most == 0 {
				at = 0
			}
			checkError(t, 3, []api.Msg{rrepAck(), sized(n), rrepAck()}, most, at, api.ErrSmall)
			checkError(t, 3, []api.Msg{rrepAck(), sized(n), {}}, most, 2, api.ErrArg)
		}
	}
}

// Messages of Babel: what those ahead have said, in their datagram, isn't said
// again; in the next one it is.
func TestP27_1PackBabel(t *testing.T) {
	l := []api.Msg{way(), way7()}
	checkPack(t, 4, l, 43, wrapped(who+wayTlv+way7Short))
	checkPack(t, 4, l, 42, wrapped(who+wayTlv), wrapped(who+way7Tlv))
	checkPack(t, 4, l, 31, wrapped(who+wayTlv), wrapped(who+way7Tlv))
	checkPack(t, 4, []api.Msg{way(), way(), way()}, 42, wrapped(who+wayTlv+wayAgain), wrapped(who+wayTlv))
	checkPack(t, 4, []api.Msg{ack(), way(), ack(), way7()}, 51, wrapped(ackTlv+who+wayTlv+ackTlv+way7Short))
	checkPack(t, 4, []api.Msg{ack(), way(), ack(), way7()}, 50, wrapped(ackTlv+who+wayTlv+ackTlv), wrapped(who+way7Tlv))
	checkPack(t, 4, []api.Msg{ack(), way(), ack(), way7()}, 33, wrapped(ackTlv), wrapped(who+wayTlv), wrapped(ackTlv), wrapped(who+way7Tlv))
	checkPack(t, 4, many(4, ack()), 12, wrapped(ackTlv+ackTlv), wrapped(ackTlv+ackTlv))
	checkPack(t, 4, many(3, ack()), 8, wrapped(ackTlv), wrapped(ackTlv), wrapped(ackTlv))
	other := with(way(), func(m *api.Msg) { m.Id = otherId })
	checkPack(t, 4, []api.Msg{way(), other, way()}, 1472, wrapped(who+wayTlv+whoElse+wayAgain+who+wayAgain))
	checkPack(t, 4, []api.Msg{way(), other, other}, 42, wrapped(who+wayTlv), wrapped(whoElse+wayTlv+wayAgain))
}

// A message of Babel has to fit alone, though it has fewer bytes behind others.
func TestP27_1PackBabelAlone(t *testing.T) {
	l := []api.Msg{way(), way7()}
	checkError(t, 4, l, 30, 1, api.ErrSmall)
	checkError(t, 4, l, 29, 0, api.ErrSmall)
	// Where the second one fits behind others that are shorter, too.
	seven := many(2, way7())
	checkFits(t, 4, seven, 43, true)
	many7 := append([]api.Msg{ack()}, many(5, way7())...)
	checkError(t, 4, many7, 30, 1, api.ErrSmall)
	checkPack(t, 4, many7, 35, wrapped(ackTlv+who+way7Tlv), wrapped(who+way7Tlv), wrapped(who+way7Tlv), wrapped(who+way7Tlv), wrapped(who+way7Tlv))
}

// An Update of Babel without a next hop begins another datagram, where one is
// known; so it can be said that there is none.
func TestP27_1PackBabelNext(t *testing.T) {
	const by, plain = who + hop + wayTlv, who + wayTlv
	checkPack(t, 4, []api.Msg{wayBy(), way(), wayBy()}, 65535, wrapped(by), wrapped(plain+hop+wayAgain))
	checkPack(t, 4, []api.Msg{way(), wayBy(), ack(), way(), way()}, math.MaxInt, wrapped(plain+hop+wayAgain+ackTlv), wrapped(plain+wayAgain))
	checkPack(t, 4, []api.Msg{wayBy(), wayBy(), way()}, 50, wrapped(by+wayAgain), wrapped(plain))
	checkPack(t, 4, []api.Msg{wayBy(), wayBy(), way()}, 49, wrapped(by), wrapped(by), wrapped(plain))
}

// As much as a datagram of Babel may have, whatever the size, and less.
func TestP27_1PackBabelFull(t *testing.T) {
	full := wrapped(strings.Repeat(ackTlv, 16382))
	checkPack(t, 4, many(16382, ack()), math.MaxInt, full)
	checkPack(t, 4, many(16383, ack()), math.MaxInt, full, wrapped(ackTlv))
	checkPack(t, 4, many(2*16382+1, ack()), 65535, full, full, wrapped(ackTlv))
	checkPack(t, 4, many(16382, ack()), 65531, wrapped(strings.Repeat(ackTlv, 16381)), wrapped(ackTlv))
	checkPack(t, 4, append(many(16382, ack()), opaque(3), opaque(3)), 65536, full[:2]+"\xff\xfb"+full[4:]+opaqueTlv(3), wrapped(opaqueTlv(3)))
	checkPack(t, 4, append(many(16382, ack()), opaque(4)), 65536, full, wrapped(opaqueTlv(4)))
}

// A message that may not be is told ahead of one that is too long, wherever both
// stand; of several the first one.
func TestP27_1PackErrorOrder(t *testing.T) {
	for _, v := range alones() {
		n := len(v.bytes)
		for _, wrong := range wrongs() {
			for _, most := range []int{n - 1, n, 0, -1, math.MaxInt} {
				checkError(t, v.p, []api.Msg{wrong}, most, 0, api.ErrArg)
				checkError(t, v.p, []api.Msg{wrong, v.m}, most, 0, api.ErrArg)
				checkError(t, v.p, []api.Msg{v.m, wrong}, most, 1, api.ErrArg)
				checkError(t, v.p, []api.Msg{v.m, v.m, wrong, v.m, wrong}, most, 2, api.ErrArg)
			}
		}
	}
}

// Of messages that are too long the first one is told, also behind ones that
// aren't, and behind more than go together.
func TestP27_1PackFirstSmall(t *testing.T) {
	for _, v := range alones() {
		for _, w := range alones() {
			if v.p != w.p || len(v.bytes) >= len(w.bytes) {
				continue
			}
			for _, most := range []int{len(v.bytes), len(w.bytes) - 1} {
				checkError(t, v.p, []api.Msg{v.m, w.m, v.m, w.m}, most, 1, api.ErrSmall)
				checkError(t, v.p, append(many(60, v.m), w.m), most, 60, api.ErrSmall)
				checkError(t, v.p, []api.Msg{w.m, v.m}, most, 0, api.ErrSmall)
			}
			checkError(t, v.p, []api.Msg{v.m, w.m}, len(v.bytes)-1, 0, api.ErrSmall)
		}
	}
}

// A message of another protocol is one that may not be.
func TestP27_1PackTwoProtocols(t *testing.T) {
	for _, v := range alones() {
		for _, w := range alones() {
			if v.p == w.p {
				continue
			}
			for _, most := range []int{0, len(v.bytes), 65535} {
				checkError(t, v.p, []api.Msg{v.m, v.m, w.m, v.m, w.m}, most, 2, api.ErrArg)
				checkError(t, w.p, []api.Msg{v.m, w.m}, most, 0, api.ErrArg)
			}
		}
	}
}

// Each two messages of a protocol, and three of each two, at each size up to one
// more than what all of them have together.
func TestP27_1PackPairs(t *testing.T) {
	for _, v := range alones() {
		for _, w := range alones() {
			if v.p != w.p {
				continue
			}
			l := []api.Msg{v.m, w.m, w.m, v.m, w.m}
			for _, l := range [][]api.Msg{l[:2], l} {
				for most := range len(l)*max(len(v.bytes), len(w.bytes)) + 2 {
					checkModel(t, v.p, l, most)
				}
			}
		}
	}
}

// As many of a kind as there are, at each number of them that go together: the
// search ends at the right one.
func TestP27_1PackEachNumber(t *testing.T) {
	for _, v := range []struct {
		p, first, each int
		m              api.Msg
	}{
		{api.Rip, 4, 20, rip1()},
		{api.Rip, 24, 20, secret()},
		{api.Ng, 4, 20, ng()},
		{api.Ng, 24, 20, ngBy()},
		{api.Babel, 4, 4, ack()},
		{api.Babel, 4, 2, opaque(2)},
	} {
		for n := range 24 {
			for number := 1; number <= 24; number++ {
				for _, spare := range []int{0, 1, v.each - 1} {
					checkNumber(t, v.p, many(n, v.m), v.first+v.each*number+spare, number)
				}
			}
		}
	}
}

// checkNumber holds Pack of l to be datagrams of so many messages each, but for
// the last one.
func checkNumber(t *testing.T, p int, l []api.Msg, most, number int) {
	t.Helper()
	var want []string
	for part := range slices.Chunk(l, number) {
		b, ok := encoded(p, part, most)
		if !ok {
			t.Errorf("%d of %s don't fit into %d", len(part), sketch(l), most)
		}
		want = append(want, b)
	}
	checkPack(t, p, l, most, want...)
}
