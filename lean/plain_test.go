package lean

import (
	"strings"
	"testing"

	"roadbook/api"
)

func TestP24_1PlainExamples(t *testing.T) {
	six := ipv6Addr[:3] + strings.Repeat("\x00", 13)
	link := linkAddr[:10] + strings.Repeat("\x00", 6)
	who := "\x06\x0a\x00\x00" + id
	for _, v := range []struct {
		m     api.Msg
		bytes string
	}{
		{api.Msg{Kind: api.Ack, Nonce: 7}, "\x03\x02\x00\x07"},
		{api.Msg{Kind: api.Opaque, Type: 99, Data: "x"}, "\x63\x01x"},
		{api.Msg{Kind: api.RouteReq, Ae: 1, Prefix: "\x0a\x01\x02\x00", Plen: 24}, "\x09\x05\x01\x18\x0a\x01\x02"},
		{noWayTo(0, "", 0), "\x08\x0a\x00\x00\x00\x00" + far},
		{noWayTo(1, ipv4Addr, 32), "\x08\x0e\x01\x80\x20\x00" + far + ipv4Addr},
		{wayTo(1, ipv4Addr, 32), who + "\x08\x0e\x01\x80\x20\x00" + numbers + ipv4Addr},
		{with(wayTo(1, ipv4Addr, 32), "Next", ipv4Next), who + "\x07\x06\x01\x00" + ipv4Next + "\x08\x0e\x01\x80\x20\x00" + numbers + ipv4Addr},
		{with(wayTo(2, six, 24), "Next", ipv6Next), who + "\x07\x12\x02\x00" + ipv6Next + "\x08\x0d\x02\x80\x18\x00" + numbers + ipv6Addr[:3]},
		{with(wayTo(2, six, 24), "Next", linkNext), who + "\x07\x0a\x03\x00" + linkNext[8:] + "\x08\x0d\x02\x80\x18\x00" + numbers + ipv6Addr[:3]},
		{with(wayTo(3, link, 80), "Next", linkNext), who + "\x07\x0a\x03\x00" + linkNext[8:] + "\x08\x0c\x03\x80\x50\x00" + numbers + linkAddr[8:10]},
		{with(wayTo(3, link, 80), "Subs", []api.Sub{{Type: 2, Data: "a"}}), who + "\x08\x0f\x03\x80\x50\x00" + numbers + linkAddr[8:10] + "\x02\x01a"},
	} {
		if got, ok := Plain(v.m); got != v.bytes || !ok {
			t.Errorf("Plain of %s = %q, %t; want %q", sketch(v.m), got, ok, v.bytes)
		}
		checkPlain(t, v.m)
	}
}

func TestP24_1PlainAll(t *testing.T) {
	for _, m := range goods() {
		checkPlain(t, m)
		if m.Kind == api.Opaque {
			continue
		}
		for _, subs := range lists() {
			checkPlain(t, with(m, "Subs", subs))
		}
		for _, subs := range wrongLists() {
			checkPlain(t, with(m, "Subs", subs))
		}
	}
}

func TestP24_1PlainOfNone(t *testing.T) {
	for _, m := range []api.Msg{
		{},
		{Kind: 15},
		{Kind: api.RrepAck},
		{Kind: api.Ack, Nonce: 65536},
		{Kind: api.Update},
		{Kind: api.Opaque, Type: 10},
		{Kind: api.Opaque, Type: 11, Data: strings.Repeat("a", 256)},
		with(noWayTo(1, ipv4Addr, 32), "Id", id),
		with(wayTo(1, ipv4Addr, 32), "Plen", 31),
	} {
		if got, ok := Plain(m); got != "" || ok {
			t.Errorf("Plain of %s = %q, %t; want nothing", sketch(m), got, ok)
		}
		checkPlain(t, m)
	}
}
