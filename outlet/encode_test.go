package outlet

import (
	"slices"
	"strings"
	"testing"

	"roadbook/api"
)

func TestP25_1None(t *testing.T) {
	checkAnswer(t, nil, answer{bytes: "\x2a\x02\x00\x00"})
	checkBody(t, nil, "")
	checkBody(t, []api.Msg{}, "")
	if n := Plain(nil); n != 4 {
		t.Errorf("Plain of no messages = %d", n)
	}
}

// Each message alone is what it is where nothing is known.
func TestP25_1One(t *testing.T) {
	checkBody(t, []api.Msg{{Kind: api.Ack, Nonce: 7}}, "\x03\x02\x00\x07")
	checkBody(t, []api.Msg{{Kind: api.Opaque, Type: 99, Data: "x"}}, "\x63\x01x")
	checkBody(t, []api.Msg{noWayTo(0, "", 0)}, "\x08\x0a\x00\x00\x00\x00"+far)
	checkBody(t, []api.Msg{wayTo(1, "\x0a\x01\x07\x00", 24)}, who(id)+"\x08\x0d\x01\x80\x18\x00"+numbers+"\x0a\x01\x07")
	checkBody(t, []api.Msg{by(wayTo(1, "\x0a\x01\x07\x00", 24), ipv4Next)}, who(id)+"\x07\x06\x01\x00"+ipv4Next+"\x08\x0d\x01\x80\x18\x00"+numbers+"\x0a\x01\x07")
	for _, m := range goods() {
		bytes, _, _ := step(api.Ctx{}, m)
		checkBody(t, []api.Msg{m}, bytes)
		if got, want := Plain([]api.Msg{m}), 4+len(bytes); got != want {
			t.Errorf("Plain of %s = %d; want %d", sketch(m), got, want)
		}
		if m.Kind == api.Opaque {
			continue
		}
		for _, subs := range lists() {
			checkEncode(t, []api.Msg{with(m, "Subs", subs)})
		}
	}
}

// A message of each Kind, one behind the other, in order, and the other way
// round.
func TestP25_1Kinds(t *testing.T) {
	l := []api.Msg{
		{Kind: api.AckReq, Nonce: 0x102, Interval: 0x304},
		{Kind: api.Ack, Nonce: 0x102, Subs: []api.Sub{{Type: 2, Data: "a"}}},
		{Kind: api.Hello, Flags: 1, Seq: 0x102, Interval: 0x304},
		{Kind: api.Ihu, Ae: 1, Cost: 0x102, Interval: 0x304, Addr: ipv4Addr},
		by(wayTo(1, "\x0a\x01\x07\x00", 24), ipv4Next),
		{Kind: api.RouteReq, Ae: 1, Prefix: "\x0a\x01\x07\x00", Plen: 24},
		{Kind: api.SeqnoReq, Ae: 1, Prefix: "\x0a\x01\x07\x00", Plen: 24, Seq: 0x102, Hops: 5, Id: otherId},
		{Kind: api.Opaque, Type: 11, Data: "x"},
		by(wayTo(1, "\x0a\x01\x08\x00", 24), ipv4Next),
	}
	const ack = "\x03\x05\x01\x02\x02\x01a"
	const update = "\x08\x0d\x01\x80\x18\x00" + numbers + "\x0a\x01\x07"
	body := "\x02\x06\x00\x00\x01\x02\x03\x04" + ack + "\x04\x06\x80\x00\x01\x02\x03\x04" +
		"\x05\x0a\x01\x00\x01\x02\x03\x04" + ipv4Addr +
		who(id) + "\x07\x06\x01\x00" + ipv4Next + update +
		"\x09\x05\x01\x18\x0a\x01\x07" + "\x0a\x11\x01\x18\x01\x02\x05\x00" + otherId + "\x0a\x01\x07" +
		"\x0b\x01x" + "\x08\x0b\x01\x80\x18\x02" + numbers + "\x08"
	checkBody(t, l, body)
	if got, want := Plain(l), 4+len(body)+12+8+2; got != want {
		t.Errorf("Plain of a message of each Kind = %d; want %d", got, want)
	}
	slices.Reverse(l)
	checkEncode(t, l)
	checkBody(t, []api.Msg{l[0], l[8], l[4]}, who(id)+"\x07\x06\x01\x00"+ipv4Next+"\x08\x0d\x01\x80\x18\x00"+numbers+"\x0a\x01\x08"+
		"\x02\x06\x00\x00\x01\x02\x03\x04"+"\x08\x0b\x01\x80\x18\x02"+numbers+"\x07")
}

// Many messages: each but Updates is its own bytes, wherever it stands.
func TestP25_1Many(t *testing.T) {
	checkEncode(t, others()[:60])
	checkEncode(t, fields())
	checkEncode(t, requests())
	body := ""
	var l []api.Msg
	for range 700 {
		l = append(l, fields()...)
		for _, m := range fields() {
			body += spelledAlone(m)
		}
	}
	checkBody(t, l, body)
	if got, want := Plain(l), 4+len(body); got != want {
		t.Errorf("Plain of %d messages = %d; want %d", len(l), got, want)
	}
	// All others, as many of them at a time as fit.
	for rest := goods(); len(rest) > 0; {
		n := min(len(rest), 50)
		checkEncode(t, rest[:n])
		rest = rest[n:]
	}
}

// Each message behind each, and behind both of two others.
func TestP25_1Pairs(t *testing.T) {
	for _, first := range few() {
		for _, second := range few() {
			checkEncode(t, []api.Msg{first, second})
			checkEncode(t, []api.Msg{first, {Kind: api.Ack}, second, first})
		}
	}
}

// Updates by the same router-id and next hop say these once.
func TestP25_1SameWay(t *testing.T) {
	for ae := 1; ae < 4; ae++ {
		for _, next := range nextsOf(ae) {
			m := by(wayTo(ae, addrs[ae], 8*len(addrs[ae])), next)
			n := with(m, "Seq", 9)
			ahead := who(id)
			if next != "" {
				ahead += spelledNext(next)
			}
			all := len(spelledPrefix(m))
			checkBody(t, []api.Msg{m, n, n, m}, ahead+spelledUpdate(m, 0)+spelledUpdate(n, all)+spelledUpdate(n, all)+spelledUpdate(m, all))
			if got, want := Plain([]api.Msg{m, n, n, m}), 4+4*len(ahead+spelledUpdate(m, 0)); got != want {
				t.Errorf("Plain of four times %s = %d; want %d", sketch(m), got, want)
			}
		}
	}
}

// Another router-id is written, and again, if it changes back; so is another
// next hop. What doesn't change is not.
func TestP25_1OtherWays(t *testing.T) {
	for ae := 1; ae < 4; ae++ {
		l := nextsOf(ae)
		m := by(wayTo(ae, addrs[ae], 8*len(addrs[ae])), l[1])
		n, o := with(m, "Id", otherId), by(m, l[2])
		all := len(spelledPrefix(m))
		start := who(id) + spelledNext(l[1]) + spelledUpdate(m, 0)
		tail := spelledUpdate(m, all)
		checkBody(t, []api.Msg{m, n, n, m}, start+who(otherId)+tail+tail+who(id)+tail)
		checkBody(t, []api.Msg{m, o, o, m}, start+spelledNext(l[2])+tail+tail+spelledNext(l[1])+tail)
		checkBody(t, []api.Msg{m, by(n, l[2]), m}, start+who(otherId)+spelledNext(l[2])+tail+who(id)+spelledNext(l[1])+tail)
		checkBody(t, []api.Msg{m, n, by(n, l[2]), o}, start+who(otherId)+tail+spelledNext(l[2])+tail+who(id)+tail)
	}
}

// Both families by turns: each has its own next hop, and each encoding its own
// default prefix; the router-id is that of all.
func TestP25_1Families(t *testing.T) {
	four := by(wayTo(1, ipv4Addr, 32), ipv4Next)
	six := by(wayTo(2, ipv6Addr, 128), linkNext)
	link := by(wayTo(3, linkAddr, 128), linkNext)
	body := who(id) + spelledNext(ipv4Next) + spelledUpdate(four, 0) +
		spelledNext(linkNext) + spelledUpdate(six, 0) +
		spelledUpdate(four, 4) + spelledUpdate(link, 0) +
		spelledUpdate(six, 16) + spelledUpdate(link, 8) + spelledUpdate(four, 4)
	checkBody(t, []api.Msg{four, six, four, link, six, link, four}, body)
	// Both encodings of IPv6 have one next hop: that of the last one.
	far6 := by(six, ipv6Next)
	checkBody(t, []api.Msg{six, by(link, ipv6Next), far6, link}, who(id)+spelledNext(linkNext)+spelledUpdate(six, 0)+
		spelledNext(ipv6Next)+spelledUpdate(link, 0)+spelledUpdate(six, 16)+spelledNext(linkNext)+spelledUpdate(link, 8))
	// A link-local address in the encoding 2 has its own default prefix.
	two := by(wayTo(2, linkAddr, 128), linkNext)
	checkBody(t, []api.Msg{link, two, link, two}, who(id)+spelledNext(linkNext)+spelledUpdate(link, 0)+
		spelledUpdate(two, 0)+spelledUpdate(link, 8)+spelledUpdate(two, 16))
}

// Prefixes that begin alike, with all, some and none of their bytes.
func TestP25_1LeftOut(t *testing.T) {
	for ae := 1; ae < 4; ae++ {
		first := []int{1: 0, 2: 0, 3: 8}[ae]
		size := len(addrs[ae])
		m := wayTo(ae, addrs[ae], 8*size)
		for n := range size - first {
			// Alike are the bytes ahead of the one that is another.
			o := wayTo(ae, wrongAt(addrs[ae], 8*(first+n)+7), 8*size)
			checkBody(t, []api.Msg{m, o, m}, who(id)+spelledUpdate(m, 0)+spelledUpdate(o, n)+spelledUpdate(m, n))
		}
		for _, plen := range plensOf(ae) {
			o := wayTo(ae, clean(addrs[ae], plen), plen)
			whole := len(spelledPrefix(o))
			alike := 0
			for alike < size-first && o.Prefix[first+alike] == addrs[ae][first+alike] {
				alike++
			}
			checkBody(t, []api.Msg{m, o, o, m}, who(id)+spelledUpdate(m, 0)+spelledUpdate(o, min(alike, whole))+spelledUpdate(o, whole)+spelledUpdate(m, alike))
		}
	}
	// The default prefix is that of the last Update of its encoding, not of the
	// first one, nor of the one that is most alike.
	a, b, c := wayTo(1, "\x0a\x01\x02\x00", 24), wayTo(1, "\x0b\x01\x02\x00", 24), wayTo(1, "\x0b\x01\x07\x00", 24)
	checkBody(t, []api.Msg{a, b, c, a}, who(id)+spelledUpdate(a, 0)+spelledUpdate(b, 0)+spelledUpdate(c, 2)+spelledUpdate(a, 0))
	// What other messages have is not known.
	request := api.Msg{Kind: api.RouteReq, Ae: 1, Prefix: "\x0a\x01\x02\x00", Plen: 24}
	seqno := api.Msg{Kind: api.SeqnoReq, Ae: 1, Prefix: "\x0a\x01\x02\x00", Plen: 24, Hops: 1, Id: id}
	ihu := api.Msg{Kind: api.Ihu, Ae: 1, Addr: ipv4Next}
	checkBody(t, []api.Msg{request, seqno, ihu, by(a, ipv4Next), request, seqno}, spelledAlone(request)+spelledAlone(seqno)+spelledAlone(ihu)+
		who(id)+spelledNext(ipv4Next)+spelledUpdate(a, 0)+spelledAlone(request)+spelledAlone(seqno))
	// Nor what is in one that nobody knows.
	opaque := api.Msg{Kind: api.Opaque, Type: 12, Data: who(id) + spelledNext(ipv4Next)}
	checkBody(t, []api.Msg{opaque, a, opaque}, spelledAlone(opaque)+who(id)+spelledUpdate(a, 0)+spelledAlone(opaque))
}

// An Update that says that there is no way says its default prefix, and leaves
// what else is known; one of the empty prefix leaves all.
func TestP25_1Far(t *testing.T) {
	for ae := 1; ae < 4; ae++ {
		next := nextsOf(ae)[1]
		size := len(addrs[ae])
		m := by(wayTo(ae, addrs[ae], 8*size), next)
		other := noWayTo(ae, wrongAt(addrs[ae], 8*size-1), 8*size)
		none := noWayTo(0, "", 0)
		all := len(spelledPrefix(m))
		start := who(id) + spelledNext(next) + spelledUpdate(m, 0)
		checkBody(t, []api.Msg{m, other, m}, start+spelledUpdate(other, all-1)+spelledUpdate(m, all-1))
		checkBody(t, []api.Msg{m, none, m}, start+spelledUpdate(none, 0)+spelledUpdate(m, all))
		checkBody(t, []api.Msg{none, other, m, none, other, none}, spelledUpdate(none, 0)+spelledUpdate(other, 0)+
			who(id)+spelledNext(next)+spelledUpdate(m, all-1)+spelledUpdate(none, 0)+spelledUpdate(other, all-1)+spelledUpdate(none, 0))
		checkBody(t, []api.Msg{other, other, none}, spelledUpdate(other, 0)+spelledUpdate(other, all)+spelledUpdate(none, 0))
	}
}

// A message that may not be: first, in the middle, and last, alone, and twice.
func TestP25_1Wrong(t *testing.T) {
	for _, bad := range wrongs() {
		checkError(t, []api.Msg{bad}, 0, api.ErrArg)
		checkError(t, []api.Msg{bad, bad}, 0, api.ErrArg)
		for i := range few() {
			l := slices.Insert(few(), i, bad)
			checkError(t, l, i, api.ErrArg)
			checkError(t, append(l, bad), i, api.ErrArg)
		}
		checkError(t, append(few(), bad), len(few()), api.ErrArg)
	}
}

// What is known of a family can't be unsaid, but by no way; the first Update
// that would have to is told.
func TestP25_1Unsaid(t *testing.T) {
	for ae := 1; ae < 4; ae++ {
		m := wayTo(ae, addrs[ae], 8*len(addrs[ae]))
		for _, next := range nextsOf(ae)[1:] {
			checkError(t, []api.Msg{by(m, next), m}, 1, api.ErrCtx)
			checkError(t, []api.Msg{m, by(m, next), m, m}, 2, api.ErrCtx)
			checkError(t, []api.Msg{by(m, next), by(m, next), with(m, "Id", otherId), by(m, next)}, 2, api.ErrCtx)
			checkError(t, []api.Msg{m, m, by(m, next), {Kind: api.Ack}, noWayTo(ae, m.Prefix, m.Plen), noWayTo(0, "", 0), m}, 6, api.ErrCtx)
			whole := len(spelledPrefix(m))
			none := noWayTo(ae, m.Prefix, m.Plen)
			checkBody(t, []api.Msg{m, m, by(m, next), none}, who(id)+spelledUpdate(m, 0)+spelledUpdate(m, whole)+spelledNext(next)+spelledUpdate(m, whole)+spelledUpdate(none, whole))
		}
	}
	four, six, link := wayTo(1, ipv4Addr, 32), wayTo(2, ipv6Addr, 128), wayTo(3, linkAddr, 128)
	// A next hop of the other family alone is none.
	checkBody(t, []api.Msg{by(four, ipv4Next), six, link}, who(id)+spelledNext(ipv4Next)+spelledUpdate(four, 0)+spelledUpdate(six, 0)+spelledUpdate(link, 0))
	checkBody(t, []api.Msg{by(six, linkNext), four, by(link, linkNext)}, who(id)+spelledNext(linkNext)+spelledUpdate(six, 0)+spelledUpdate(four, 0)+spelledUpdate(link, 0))
	checkBody(t, []api.Msg{by(link, ipv6Next), four}, who(id)+spelledNext(ipv6Next)+spelledUpdate(link, 0)+spelledUpdate(four, 0))
	// Both encodings of IPv6 are one family.
	checkError(t, []api.Msg{by(six, linkNext), four, link}, 2, api.ErrCtx)
	checkError(t, []api.Msg{by(link, ipv6Next), four, six}, 2, api.ErrCtx)
	checkError(t, []api.Msg{by(four, ipv4Next), six, four}, 2, api.ErrCtx)
}

// One that may not be is told ahead of what can't be unsaid, wherever it stands.
func TestP25_1WrongAndUnsaid(t *testing.T) {
	m := wayTo(1, ipv4Addr, 32)
	unsaid := []api.Msg{by(m, ipv4Next), m, {Kind: api.Ack}, m}
	for _, bad := range wrongs() {
		for i := range len(unsaid) + 1 {
			checkError(t, slices.Insert(slices.Clone(unsaid), i, bad), i, api.ErrArg)
		}
	}
	checkError(t, unsaid, 1, api.ErrCtx)
}

// Bodies of 65530, 65531 and 65532 bytes: the last message goes beyond, or one
// that has others behind it.
func TestP25_1Long(t *testing.T) {
	ack := api.Msg{Kind: api.Ack}
	for n := 65528; n < 65535; n++ {
		for _, l := range [][]api.Msg{filled(n), append(filled(n-4), ack), append([]api.Msg{ack}, filled(n-4)...)} {
			if n <= 65531 {
				body := ""
				for _, m := range l {
					body += spelledAlone(m)
				}
				if len(body) != n {
					t.Fatalf("a body of %d bytes instead of %d", len(body), n)
				}
				checkBody(t, l, body)
			} else {
				checkError(t, l, len(l)-1, api.ErrLong)
			}
			if got := Plain(l); got != 4+n {
				t.Errorf("Plain of a body of %d bytes = %d", n, got)
			}
		}
	}
	for n := 65528; n < 65535; n++ {
		// The first one that goes beyond is told, though others would fit.
		l := append(filled(n), api.Msg{Kind: api.Opaque, Type: 11}, ack, ack)
		at := len(filled(n)) - 1
		switch {
		case n < 65530:
			at += 2
		case n < 65532:
			at++
		}
		checkError(t, l, at, api.ErrLong)
	}
	full := filled(65531)
	checkError(t, append(full, ack), len(full), api.ErrLong)
	checkError(t, append(full, ack, ack, ack), len(full), api.ErrLong)
	checkError(t, append(full, full...), len(full), api.ErrLong)
	checkError(t, slices.Repeat(full, 5), len(full), api.ErrLong)
}

// What an Update leaves out is not in the body.
func TestP25_1LongUpdates(t *testing.T) {
	m := by(wayTo(2, ipv6Addr, 128), ipv6Next)
	first := len(who(id) + spelledNext(ipv6Next) + spelledUpdate(m, 0))
	rest := len(spelledUpdate(m, 16))
	n := 1 + (65531-first)/rest
	l := slices.Repeat([]api.Msg{m}, n+3)
	checkEncode(t, l[:n])
	checkError(t, l[:n+1], n, api.ErrLong)
	checkError(t, l, n, api.ErrLong)
	if bytes, _, err := Encode(l[:n]); err != api.OK || len(bytes) <= 65535-rest || Plain(l[:n]) <= 65535 {
		t.Errorf("%d Updates are %d bytes, error %d, and plain %d", n, len(bytes), err, Plain(l[:n]))
	}
	// All that goes ahead of an Update's TLV counts with it.
	for _, v := range []api.Msg{m, by(m, ""), noWayTo(2, ipv6Addr, 128), noWayTo(0, "", 0)} {
		bytes, _, _ := step(api.Ctx{}, v)
		for more := range 4 {
			l := append(filled(65531-len(bytes)+more-1), v)
			if more < 2 {
				checkEncode(t, l)
				if body, _, err := Encode(l); err != api.OK || len(body) != 65534+more {
					t.Errorf("%d bytes, error %d; want %d", len(body), err, 65534+more)
				}
				continue
			}
			checkError(t, l, len(l)-1, api.ErrLong)
			checkError(t, append(l, v, v), len(l)-1, api.ErrLong)
		}
	}
}

// One that may not be is told ahead of too many bytes; of what can't be unsaid
// and too many bytes the one that comes first, and of one message the former.
func TestP25_1LongAndOthers(t *testing.T) {
	full := filled(65531)
	ack := api.Msg{Kind: api.Ack}
	for _, bad := range wrongs() {
		for _, i := range []int{0, 1, len(full) - 1, len(full), len(full) + 1, len(full) + 2} {
			checkError(t, slices.Insert(append(slices.Clone(full), ack, ack), i, bad), i, api.ErrArg)
		}
	}
	m := wayTo(1, ipv4Addr, 32)
	said, _, _ := step(api.Ctx{}, by(m, ipv4Next))
	l := append([]api.Msg{by(m, ipv4Next)}, filled(65531-len(said))...)
	checkEncode(t, l)
	checkError(t, append(l, ack), len(l), api.ErrLong)
	checkError(t, append(l, m), len(l), api.ErrCtx)
	checkError(t, append(l, m, ack), len(l), api.ErrCtx)
	checkError(t, append(l, ack, m), len(l), api.ErrLong)
	checkError(t, append(l, by(m, ipv4Next), m), len(l), api.ErrLong)
	checkError(t, append(slices.Insert(slices.Clone(l), 1, m), ack), 1, api.ErrCtx)
}

// Plain bytes hang on no other message: no error but that one may not be.
func TestP25_1Plain(t *testing.T) {
	m := wayTo(1, "\x0a\x01\x07\x00", 24)
	l := []api.Msg{by(m, ipv4Next), m, noWayTo(1, m.Prefix, 24), noWayTo(0, "", 0), {Kind: api.Ack}}
	if got, want := Plain(l), 4+(12+8+15)+(12+15)+15+12+4; got != want {
		t.Errorf("Plain of %s = %d; want %d", sketch(l), got, want)
	}
	checkPlain(t, l)
	for _, n := range []int{65527, 65531, 65532, 100000, 1 << 20} {
		if got := Plain(filled(n)); got != 4+n {
			t.Errorf("Plain of %d bytes = %d", n, got)
		}
	}
	for _, bad := range wrongs() {
		for i := range len(l) + 1 {
			if got := Plain(slices.Insert(slices.Clone(l), i, bad)); got != 0 {
				t.Errorf("Plain with %s at %d = %d", sketch(bad), i, got)
			}
		}
		if got := Plain(append(filled(70000), bad)); got != 0 {
			t.Errorf("Plain with %s behind many bytes = %d", sketch(bad), got)
		}
	}
	checkPlain(t, []api.Msg{{Kind: api.Opaque, Type: 255, Data: strings.Repeat("a", 255)}})
	checkPlain(t, goods())
}
