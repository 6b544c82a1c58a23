package ctx

import (
	"slices"
	"strings"
	"testing"

	"roadbook/api"
)

// plain are Updates that may be, of each encoding: with a way, by a next hop and
// by none, and without one.
func plain() []api.Msg {
	l := []api.Msg{{Kind: api.Update, Interval: 258, Seq: 772, Metric: 65535}}
	nexts := [4][]string{1: {"", ipv4Next}, 2: {"", ipv6Next, linkNext}, 3: {"", linkNext, ipv6Next}}
	for ae := 1; ae < 4; ae++ {
		for _, plen := range plens {
			if !long(ae, plen) {
				continue
			}
			m := api.Msg{Kind: api.Update, Ae: ae, Prefix: clean(all.Prefix[ae], plen), Plen: plen, Interval: 258, Seq: 772, Metric: 65535}
			l = append(l, m)
			for _, next := range nexts[ae] {
				m.Metric, m.Id, m.Next = 1286, id, next
				l = append(l, m)
			}
		}
	}
	return l
}

func TestP22_1RightExamples(t *testing.T) {
	for _, m := range plain() {
		checkRight(t, "plain", m, true)
	}
	m := api.Msg{Kind: api.Update, Ae: 1, Prefix: "\x0a\x01\x02\x00", Plen: 23, Interval: 1, Seq: 2, Metric: 3, Id: id}
	checkRight(t, "way", m, true)
	checkRight(t, "by a next hop", with(m, "Next", ipv4Next), true)
	checkRight(t, "no way, of somebody", with(m, "Metric", 65535), false)
	checkRight(t, "nobody", with(m, "Id", ""), false)
	checkRight(t, "no way", with(with(m, "Metric", 65535), "Id", ""), true)
	checkRight(t, "no prefix", with(m, "Plen", 22), false)
	checkRight(t, "nothing", api.Msg{}, false)
	checkRight(t, "no fields", api.Msg{Kind: api.Update}, false)
	checkRight(t, "no way to anywhere", api.Msg{Kind: api.Update, Metric: 65535}, true)
	checkRight(t, "a way to anywhere", api.Msg{Kind: api.Update, Metric: 1, Id: id}, false)
}

// Other kinds are no Updates, even those that are bare.
func TestP22_1RightKind(t *testing.T) {
	for _, m := range plain() {
		for kind := -2; kind < 18; kind++ {
			checkRight(t, "Kind", with(m, "Kind", kind), kind == 11)
		}
		for _, kind := range otherAes {
			checkRight(t, "Kind", with(m, "Kind", kind), false)
		}
	}
	checkRight(t, "RouteReq", api.Msg{Kind: api.RouteReq}, false)
	checkRight(t, "RouteReq", api.Msg{Kind: api.RouteReq, Ae: 1, Prefix: "\x0a\x01\x02\x00", Plen: 23}, false)
	checkRight(t, "SeqnoReq", api.Msg{Kind: api.SeqnoReq, Ae: 1, Prefix: "\x0a\x01\x02\x00", Plen: 23, Hops: 1, Id: id}, false)
	checkRight(t, "Ack", api.Msg{Kind: api.Ack, Nonce: 7}, false)
}

// Any field that an Update doesn't have makes it one that may not be.
func TestP22_1RightBare(t *testing.T) {
	others := map[string]any{
		"Cmd": 1, "Ver": 1, "Auth": "a", "Family": 2, "Tag": 1, "Seq2": -1, "Flags": 1, "Hops": 1, "Nonce": 1, "Cost": 1,
		"Addr": ipv4Addr, "Orig": ipv4Addr, "List": []api.Dest{{}}, "Type": 8, "Data": "\x00",
	}
	for _, m := range plain() {
		for name, value := range others {
			checkRight(t, name, with(m, name, value), false)
		}
		checkRight(t, "empty lists", with(with(m, "List", []api.Dest{}), "Subs", []api.Sub{}), true)
	}
}

func TestP22_1RightSubs(t *testing.T) {
	for _, m := range plain() {
		for _, l := range lists() {
			checkRight(t, "Subs", with(m, "Subs", l), true)
		}
		for _, l := range wrongLists() {
			checkRight(t, "wrong Subs", with(m, "Subs", l), false)
		}
	}
}

// The prefix is one in its own encoding, of its own length.
func TestP22_1RightPrefix(t *testing.T) {
	for _, m := range plain() {
		for _, plen := range plens {
			checkRight(t, "Plen", with(m, "Plen", plen), in(m.Ae, m.Prefix, plen))
		}
		for _, a := range addresses() {
			checkRight(t, "Prefix", with(m, "Prefix", a), in(m.Ae, a, m.Plen))
		}
		for bit := range 8 * len(m.Prefix) {
			inHead := m.Ae == 3 && bit < 64
			checkRight(t, "Prefix", with(m, "Prefix", wrongAt(m.Prefix, bit)), bit < m.Plen && !inHead)
		}
		for _, ae := range otherAes {
			checkRight(t, "Ae", with(m, "Ae", ae), false)
		}
		for ae := range 4 {
			v := with(m, "Ae", ae)
			checkRight(t, "Ae", v, mayBe(v))
		}
	}
	link := api.Msg{Kind: api.Update, Ae: 3, Prefix: linkAddr, Plen: 128, Metric: 1, Id: id}
	checkRight(t, "link-local", link, true)
	checkRight(t, "link-local, of IPv6", with(link, "Ae", 2), true)
	checkRight(t, "link-local, of IPv4", with(link, "Ae", 1), false)
	checkRight(t, "link-local, of none", with(link, "Ae", 0), false)
}

func TestP22_1RightNumbers(t *testing.T) {
	for _, m := range plain() {
		for _, name := range []string{"Interval", "Seq"} {
			for _, n := range goodNums {
				checkRight(t, name, with(m, name, n), true)
			}
			for _, n := range badNums {
				checkRight(t, name, with(m, name, n), false)
			}
		}
		for _, n := range goodNums {
			checkRight(t, "Metric", with(m, "Metric", n), (n == 65535) == (m.Metric == 65535))
		}
		for _, n := range badNums {
			checkRight(t, "Metric", with(m, "Metric", n), false)
		}
	}
}

// The empty prefix has no other Metric than Far, whoever says so.
func TestP22_1RightEmpty(t *testing.T) {
	for _, n := range slices.Concat(goodNums, badNums) {
		for _, who := range append(badIds, id) {
			for _, next := range append(addresses(), "abc") {
				m := api.Msg{Kind: api.Update, Metric: n, Id: who, Next: next}
				checkRight(t, "empty", m, n == 65535 && who == "" && next == "")
			}
		}
	}
}

// A way has an Id of eight bytes, whatever they are; where there is none, nobody
// has it.
func TestP22_1RightId(t *testing.T) {
	ids := append(badIds, id, "\x00\x00\x00\x00\x00\x00\x00\x00", "\xff\xff\xff\xff\xff\xff\xff\xff", strings.Repeat("a", 9), ipv4Addr)
	for _, m := range plain() {
		for _, who := range ids {
			want := len(who) == 8
			if m.Metric == 65535 {
				want = who == ""
			}
			checkRight(t, "Id", with(m, "Id", who), want)
		}
	}
}

// A next hop is of the encoding's family; link-local or not, in both encodings
// of IPv6.
func TestP22_1RightNext(t *testing.T) {
	sizes := map[int]int{1: 4, 2: 16, 3: 16}
	for _, m := range plain() {
		for _, next := range append(addresses(), ipv4Next, linkNext, ipv6Next) {
			want := next == "" || m.Metric != 65535 && len(next) == sizes[m.Ae]
			checkRight(t, "Next", with(m, "Next", next), want)
		}
	}
}
