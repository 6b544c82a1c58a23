package lean

import (
	"math"
	"reflect"
	"strings"
	"testing"

	"roadbook/api"
)

func TestP24_1RightExamples(t *testing.T) {
	for _, m := range goods() {
		checkRight(t, "good", m, true)
	}
	way := api.Msg{Kind: api.Update, Ae: 1, Prefix: "\x0a\x01\x02\x00", Plen: 23, Metric: 3, Id: id}
	checkRight(t, "way", way, true)
	checkRight(t, "by a next hop", with(way, "Next", ipv4Next), true)
	checkRight(t, "by one of the other family", with(way, "Next", ipv6Next), false)
	checkRight(t, "nobody's", with(way, "Id", ""), false)
	checkRight(t, "no prefix", with(way, "Plen", 22), false)
	checkRight(t, "no way", with(with(way, "Metric", 65535), "Id", ""), true)
	checkRight(t, "no way, somebody's", with(way, "Metric", 65535), false)
	checkRight(t, "no way to anywhere", api.Msg{Kind: api.Update, Metric: 65535}, true)
	checkRight(t, "a way to anywhere", api.Msg{Kind: api.Update, Metric: 1, Id: id}, false)
	checkRight(t, "who asks", api.Msg{Kind: api.AckReq}, true)
	checkRight(t, "who acknowledges", api.Msg{Kind: api.Ack, Nonce: 65535}, true)
	checkRight(t, "who acknowledges too much", api.Msg{Kind: api.Ack, Nonce: 65536}, false)
	checkRight(t, "Hello", api.Msg{Kind: api.Hello, Flags: 1}, true)
	checkRight(t, "Hello of other flags", api.Msg{Kind: api.Hello, Flags: 2}, false)
	checkRight(t, "Ihu", api.Msg{Kind: api.Ihu, Ae: 3, Addr: linkAddr}, true)
	checkRight(t, "Ihu of another encoding", api.Msg{Kind: api.Ihu, Ae: 3, Addr: ipv6Addr}, false)
	checkRight(t, "request for all", api.Msg{Kind: api.RouteReq}, true)
	checkRight(t, "seqno request for all", api.Msg{Kind: api.SeqnoReq, Hops: 1, Id: id}, false)
	checkRight(t, "seqno request", api.Msg{Kind: api.SeqnoReq, Ae: 1, Prefix: "\x0a\x01\x02\x00", Plen: 23, Hops: 1, Id: id}, true)
	checkRight(t, "seqno request that goes nowhere", api.Msg{Kind: api.SeqnoReq, Ae: 1, Prefix: "\x0a\x01\x02\x00", Plen: 23, Id: id}, false)
	checkRight(t, "nothing", api.Msg{}, false)
}

// Messages of the other protocols are none of Babel, nor are those of a Kind
// that there isn't.
func TestP24_1RightKinds(t *testing.T) {
	four, link := "\x0a\x01\x02\x00", head+"abcdefgh"
	for _, m := range []api.Msg{
		{Kind: api.RipRoute, Cmd: 2, Ver: 2, Family: 2, Prefix: four, Plen: 23, Next: "\x00\x00\x00\x00", Metric: 1},
		{Kind: api.NgRoute, Cmd: 2, Prefix: ipv6Addr, Plen: 128, Next: link, Metric: 1},
		{Kind: api.Rreq, Flags: 16, Hops: 5, Nonce: 7, Addr: "abcd", Seq: 8, Orig: "efgh", Seq2: 9},
		{Kind: api.Rrep, Flags: 1, Plen: 24, Hops: 5, Addr: "abcd", Seq: 8, Orig: "efgh", Interval: 9},
		{Kind: api.Rerr, Flags: 1, List: []api.Dest{{Addr: "abcd", Seq: 8}}},
		{Kind: api.RrepAck},
		{Kind: api.RrepAck, Subs: []api.Sub{{Type: 2}}},
	} {
		checkRight(t, "another protocol", m, false)
	}
	for _, m := range goods() {
		for kind := 1; kind <= api.LastOfKind; kind++ {
			v := with(m, "Kind", kind)
			checkRight(t, "another Kind", v, mayBe(v))
			if kind <= api.RrepAck && Right(v) {
				t.Errorf("%s is right", sketch(v))
			}
		}
		for _, kind := range noKinds {
			checkRight(t, "no Kind", with(m, "Kind", kind), false)
		}
	}
	for _, kind := range append(noKinds, math.MaxInt, math.MinInt, math.MinInt+8, math.MinInt+11) {
		checkRight(t, "no Kind", api.Msg{Kind: kind}, false)
		checkRight(t, "no Kind", api.Msg{Kind: kind, Nonce: 7}, false)
		checkRight(t, "no Kind", api.Msg{Kind: kind, Type: 99}, false)
	}
}

// values are values of a field, such as may be and such as may not.
func values(field reflect.StructField) []any {
	var l []any
	switch field.Type {
	case reflect.TypeFor[int]():
		for _, n := range []int{
			0, 1, 2, 3, 4, 7, 8, 9, 10, 11, 12, 13, 14, 23, 24, 31, 32, 33, 63, 64, 65, 127, 128, 129, 255, 256, 257, 65534, 65535, 65536, 65537,
			-1, -2, -128, -255, -256, -65535, -65536, 1 << 32, 1<<32 + 1, 1<<32 + 11, math.MaxInt, math.MinInt, math.MinInt + 1,
		} {
			l = append(l, n)
		}
	case reflect.TypeFor[string]():
		for _, s := range []string{
			"", "\x00", "a", "abc", "abcd", "\x00\x00\x00\x00", ipv4Addr, ipv4Next, "abcde", id[:7], id, otherId, id + "I",
			ipv6Addr[:15], ipv6Addr, ipv6Next, ipv6Addr + "a", linkAddr, linkNext, linkAddr[:15], head + head, wrongAt(linkAddr, 63), head,
			strings.Repeat("\x00", 8), strings.Repeat("\x00", 16), strings.Repeat("a", 255), strings.Repeat("a", 256), strings.Repeat("a", 260),
		} {
			l = append(l, s)
		}
	case reflect.TypeFor[[]api.Dest]():
		l = append(l, []api.Dest{}, []api.Dest{{}}, []api.Dest{{Addr: "abcd", Seq: 8}})
	case reflect.TypeFor[[]api.Sub]():
		for _, subs := range append(lists(), wrongLists()...) {
			l = append(l, subs)
		}
	}
	return l
}

// Each field alone, with values that it may have there and such as it may not,
// whether or not the Kind has it.
func TestP24_1RightFields(t *testing.T) {
	type count struct{ right, wrong int }
	counts := map[int]map[string]*count{}
	for _, m := range few() {
		for _, field := range reflect.VisibleFields(reflect.TypeFor[api.Msg]()) {
			for _, value := range values(field) {
				v := with(m, field.Name, value)
				checkRight(t, field.Name, v, mayBe(v))
				if counts[m.Kind] == nil {
					counts[m.Kind] = map[string]*count{}
				}
				c := counts[m.Kind][field.Name]
				if c == nil {
					c = &count{}
					counts[m.Kind][field.Name] = c
				}
				if mayBe(v) {
					c.right++
				} else {
					c.wrong++
				}
			}
		}
	}
	if len(counts) != 8 {
		t.Errorf("there are messages of %d Kinds", len(counts))
	}
	for kind, fields := range counts {
		for name, c := range fields {
			if c.right == 0 || c.wrong == 0 {
				t.Errorf("%s of the Kind %d: %d are right, %d are wrong", name, kind, c.right, c.wrong)
			}
		}
	}
}

func TestP24_1RightSubs(t *testing.T) {
	for _, m := range goods() {
		has := m.Kind != api.Opaque
		for _, l := range lists() {
			checkRight(t, "Subs", with(m, "Subs", l), has || len(l) == 0)
		}
		for _, l := range wrongLists() {
			checkRight(t, "wrong Subs", with(m, "Subs", l), false)
		}
	}
}

// What nobody knows has a type that nobody knows, and as many bytes as a TLV has
// room for, and nothing else.
func TestP24_1RightOpaque(t *testing.T) {
	types := map[int]bool{
		-1: false, 0: false, 1: false, 2: false, 5: false, 6: false, 8: false, 9: false, 10: false, 11: true, 12: true, 127: true, 128: true, 254: true, 255: true, 256: false,
		257: false, 256 + 11: false, 1<<32 + 11: false, -245: false, math.MaxInt: false, math.MinInt: false, math.MinInt + 11: false,
	}
	sizes := map[int]bool{0: true, 1: true, 2: true, 200: true, 201: true, 254: true, 255: true, 256: false, 257: false, 511: false, 512: false, 65536: false, 65537: false}
	for typ, known := range types {
		for n, fits := range sizes {
			m := api.Msg{Kind: api.Opaque, Type: typ, Data: strings.Repeat("a", n)}
			checkRight(t, "opaque", m, known && fits)
			for name, value := range map[string]any{
				"Cmd": 1, "Ver": 1, "Auth": "a", "Family": 2, "Ae": 1, "Prefix": ipv4Addr, "Plen": 1, "Tag": 1, "Next": ipv4Next, "Metric": 65535, "Id": id,
				"Seq": 1, "Seq2": -1, "Interval": 1, "Flags": 1, "Hops": 1, "Nonce": 1, "Cost": 1, "Addr": ipv4Addr, "Orig": ipv4Addr,
				"List": []api.Dest{{}}, "Subs": []api.Sub{{Type: 2}},
			} {
				if n < 2 || n > 254 && n < 257 {
					checkRight(t, "opaque, not bare", with(m, name, value), false)
				}
			}
			checkRight(t, "opaque, empty lists", with(with(m, "List", []api.Dest{}), "Subs", []api.Sub{}), known && fits)
		}
	}
}
