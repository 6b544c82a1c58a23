package outlet

import (
	"math"
	"math/rand"
	"slices"
	"strings"
	"testing"

	"roadbook/api"
	"roadbook/intake"
)

// Messages one behind the other, at random, wrong ones among them.
func TestP25_2Walks(t *testing.T) {
	r := rand.New(rand.NewSource(1))
	errs, saved := map[api.Errno]int{}, 0
	for range 1000 {
		var l []api.Msg
		for range r.Intn(20) {
			l = append(l, someMessage(r))
			if r.Intn(200) == 0 {
				l = append(l, wrongs()[r.Intn(len(wrongs()))])
			}
		}
		if r.Intn(2) == 0 {
			l = withNexts(l)
		}
		checkEncode(t, l)
		bytes, _, err := Encode(l)
		errs[err]++
		if err == api.OK {
			saved += Plain(l) - len(bytes)
			checkRewritten(t, bytes)
		}
	}
	if errs[api.OK] < 400 || errs[api.ErrCtx] < 150 || errs[api.ErrArg] < 20 || saved < 20000 {
		t.Errorf("the errors are %v, and %d bytes were left out", errs, saved)
	}
}

// withNexts is l, each Update that has a way by a next hop, too.
func withNexts(l []api.Msg) []api.Msg {
	for i, m := range l {
		if m.Kind == api.Update && m.Metric != 65535 && m.Next == "" {
			l[i].Next = nextsOf(max(m.Ae, 1))[1]
		}
	}
	return l
}

// Walks that go beyond what a datagram may have.
func TestP25_2LongWalks(t *testing.T) {
	r := rand.New(rand.NewSource(2))
	for range 2 {
		var l []api.Msg
		for len(l) < 4000 {
			m := someUpdate(r)
			if r.Intn(20) == 0 {
				m = someMessage(r)
			}
			l = append(l, m)
		}
		l = withNexts(l)
		want := spelled(l)
		checkAnswer(t, l, want)
		if want.err != api.ErrLong || want.at < 1000 {
			t.Fatalf("the error %d at %d", want.err, want.at)
		}
		// Those ahead of it fit.
		checkEncode(t, l[:want.at])
		checkError(t, l[:want.at+1], want.at, api.ErrLong)
		if bytes, _, err := Encode(l[:want.at]); err != api.OK || !checkRewritten(t, bytes) {
			t.Errorf("%d messages have the error %d", want.at, err)
		}
	}
}

// bodies are bodies of datagrams that aren't written as they stand: TLVs that
// say what they need not, padding, what must be known, and what says nothing.
func bodies() []string {
	const update = "\x08\x0d\x01\x00\x18\x00" + numbers + "\xa1\xa2\xa3"
	const flagged = "\x08\x0d\x01\x80\x18\x00" + numbers + "\xa1\xa2\xa3"
	const left = "\x08\x0b\x01\x00\x18\x02" + numbers + "\x07"
	return []string{
		"",
		"\x00\x01\x02ab\x00",
		who(id),
		who(id) + who(otherId) + update,
		who(id) + who(id) + update + who(id) + update,
		who(id) + update + update + update,
		who(id) + flagged + left + left,
		who(id) + "\x07\x06\x01\x00" + ipv4Next + update + "\x07\x06\x01\x00" + ipv4Next + update,
		who(id) + "\x07\x0a\x03\x00" + linkNext[8:] + update,
		who(id) + "\x07\x12\x02\x00" + linkNext + "\x08\x0d\x02\x00\x18\x00" + numbers + "\xb1\xb2\xb3",
		who(id) + "\x07\x0a\x03\x00" + linkNext[8:] + "\x08\x0d\x02\x80\x18\x00" + numbers + "\xb1\xb2\xb3" + "\x08\x0d\x03\x00\x58\x00" + numbers + "\xc1\xc2\xc3",
		// A router-id that lies in the address.
		"\x08\x0d\x01\x40\x18\x00" + numbers + "\xa1\xa2\xa3" + update,
		"\x08\x0d\x01\xc0\x18\x00" + numbers + "\xa1\xa2\xa3" + left + left,
		"\x08\x1a\x02\xc0\x80\x00" + numbers + ipv6Addr + "\x08\x0d\x02\x00\x18\x00" + numbers + "\xb1\xb2\xb3",
		// What must be known hides a message, not what it says.
		who(id) + "\x08\x0f\x01\x80\x18\x00" + numbers + "\xa1\xa2\xa3\x80\x00" + left,
		who(id) + "\x07\x08\x01\x00" + ipv4Next + "\x80\x00" + update,
		"\x06\x0c\x00\x00" + id + "\x80\x00" + update,
		// Bits behind the length, reserved ones, and ones that say nothing.
		who(id) + "\x08\x0d\x01\xbf\x11\x00" + numbers + "\xa1\xa2\xff" + left,
		"\x06\x0a\xff\xff" + id + update,
		"\x02\x06\xff\xff\x00\x07\x00\x01" + "\x04\x06\x7f\xff\x00\x01\x00\x02" + "\x05\x06\x00\xff\x00\x01\x00\x02",
		"\x09\x05\x01\x11\xa1\xa2\xff" + "\x0a\x11\x01\x11\x01\x02\x05\xff" + id + "\xa1\xa2\xff",
		// TLVs that tell nothing.
		update + "\x05\x06\x04\x00\x01\x02\x03\x04" + "\x07\x02\x04\x00" + "\x09\x02\x04\x00",
		who(id) + "\x08\x0a\x04\x80\x00\x00" + numbers + update,
		"\x08\x0a\x00\x00\x00\x00" + numbers + "\x08\x0a\x00\xc0\x00\x00" + far,
		// Ways without a way, and sub-TLVs with padding among them.
		"\x08\x0d\x01\x00\x18\x00" + far + "\xa1\xa2\xa3" + "\x08\x0d\x01\x80\x18\x00" + far + "\xa1\xa2\xa3" + "\x08\x0a\x01\x00\x18\x03" + far,
		who(id) + "\x08\x14\x01\x80\x18\x00" + numbers + "\xa1\xa2\xa3\x00\x02\x01a\x01\x01\x00" + "\x0b\x01x" + "\xff\x00",
		"\x03\x02\x00\x07" + "\x03\x06\x00\x07\x00\x02\x00\x00" + "\x03\x04\x00\x07\x80\x00",
	}
}

// What is read of any datagram, with TLVs that are ignored, padding, and a
// trailer, is written, read as the same, and written as it was.
func TestP25_2Rewritten(t *testing.T) {
	trailers := []string{"", "\x00", "\x01\x03abc\x00", who(id), "\x03\x02\x00\x07", "\x08\x0b\x01\x00\x18\x02" + numbers + "\x07"}
	paddings := []string{"", "\x00", "\x01\x00", "\x00\x01\x04\x06\x0a\x00\x00\x00"}
	for _, first := range bodies() {
		for _, second := range bodies() {
			for _, padding := range paddings {
				body := padding + first + padding + second + padding
				for _, trailer := range trailers {
					if !checkRewritten(t, wrapped(body)+trailer) {
						t.Errorf("%q isn't read", body)
					}
				}
			}
		}
	}
}

// What is said twice, and bytes that were not left out, don't come again; a
// router-id that lay in an address does.
func TestP25_2RewrittenExamples(t *testing.T) {
	const update = "\x08\x0d\x01\x00\x18\x00" + numbers + "\xa1\xa2\xa3"
	const flagged = "\x08\x0d\x01\x80\x18\x00" + numbers + "\xa1\xa2\xa3"
	const again = "\x08\x0a\x01\x80\x18\x03" + numbers
	for _, v := range []struct{ body, want string }{
		{"\x00\x01\x02ab" + who(otherId), ""},
		{who(otherId) + who(id) + update + who(id) + "\x00" + update, who(id) + flagged + again},
		{"\x07\x0a\x03\x00" + linkNext[8:] + who(id) + update, who(id) + flagged},
		{"\x07\x06\x01\x00" + ipv4Next + who(id) + update, who(id) + "\x07\x06\x01\x00" + ipv4Next + flagged},
		{"\x08\x0d\x01\x40\x18\x00" + numbers + "\xa1\xa2\xa3", who("\x00\x00\x00\x00\xa1\xa2\xa3\x00") + flagged},
		{who(id) + "\x08\x0f\x01\x80\x18\x00" + numbers + "\xa1\xa2\xa3\x80\x00" + again, who(id) + flagged},
		{"\x03\x02\x00\x07\x03\x04\x00\x07\x80\x00", "\x03\x02\x00\x07"},
	} {
		l, _, err := intake.Parse(wrapped(v.body) + "\x00")
		if err != api.OK {
			t.Errorf("%q isn't read: %d", v.body, err)
		}
		checkBody(t, l, v.want)
	}
}

// Any bytes that are a datagram.
func TestP25_2AnyBytes(t *testing.T) {
	r := rand.New(rand.NewSource(3))
	read := 0
	for range 8000 {
		body := ""
		for range r.Intn(8) {
			body += someTlv(r)
		}
		if checkRewritten(t, wrapped(body)) {
			read++
		}
	}
	if read < 1000 {
		t.Errorf("only %d datagrams were read", read)
	}
}

// someTlv is the bytes of some TLV, a few of which have an error.
func someTlv(r *rand.Rand) string {
	l := bodies()
	switch r.Intn(4) {
	case 0:
		return l[r.Intn(len(l))]
	case 1:
		bytes, _, _ := step(api.Ctx{}, someMessage(r))
		return bytes
	case 2:
		ae := 1 + r.Intn(3)
		plen := lengths[ae][0] + 8*(1+r.Intn(4)) - r.Intn(8)
		m := noWayTo(ae, clean(addrs[ae], plen), plen)
		left := r.Intn(2)
		head := string([]byte{byte(ae), byte(r.Intn(256)), byte(plen), byte(left)})
		return tlv(8, head+[]string{numbers, far}[r.Intn(2)]+spelledPrefix(m)[left:])
	}
	b := make([]byte, r.Intn(12))
	r.Read(b)
	return tlv(r.Intn(14), string(b))
}

// A datagram that is read may be too long to be written, since a router-id that
// lay in an address has to be said: there is that error alone.
func TestP25_2Longer(t *testing.T) {
	// Each of these has another router-id, that lies in its address.
	body := ""
	n := 0
	for len(body)+16 <= 65531 {
		body += "\x08\x0e\x01\x40\x20\x00" + numbers + string([]byte{10, byte(n >> 16), byte(n >> 8), byte(n)})
		n++
	}
	l, _, err := intake.Parse(wrapped(body))
	if err != api.OK || len(l) != n {
		t.Fatalf("%d messages, error %d", len(l), err)
	}
	want := spelled(l)
	if want.err != api.ErrLong {
		t.Fatalf("the error %d", want.err)
	}
	checkAnswer(t, l, want)
	checkEncode(t, l[:want.at])
	if checkRewritten(t, wrapped(body)) {
		t.Errorf("%d Updates are written in one datagram", n)
	}
}

// What was handed in stays as it was, the spare room of its lists, too.
func TestP25_2ChangesNothing(t *testing.T) {
	for _, l := range [][]api.Msg{few(), goods(), append(few(), api.Msg{}), append(filled(65531), api.Msg{Kind: api.Ack})} {
		room := make([]api.Msg, len(l), len(l)+3)
		subs := make([]api.Sub, 5)
		for i := range subs {
			subs[i] = api.Sub{Type: 2 + i, Data: "spare"}
		}
		dests := []api.Dest{{Addr: "abcd", Seq: 8}, {Addr: "spare", Seq: 9}}
		for i, m := range l {
			if m.Kind != api.Opaque {
				m.Subs = subs[:3]
			}
			if m.Kind == 0 {
				m.List = dests[:1]
			}
			room[i] = m
		}
		room = append(room, api.Msg{Kind: 99}, api.Msg{Data: "spare"})
		before := slices.Clone(room)
		subsBefore, destsBefore := slices.Clone(subs), slices.Clone(dests)
		Encode(room[:len(l)])
		Plain(room[:len(l)])
		if !slices.EqualFunc(room, before, same) || !slices.Equal(subs, subsBefore) || !slices.Equal(dests, destsBefore) {
			t.Errorf("%s, or the spare room of its lists, became %s", sketch(before), sketch(room))
		}
	}
}

// A call hangs on its arguments alone, not on what was written ahead; what was
// answered stays as it was, whatever becomes of what was handed in.
func TestP25_2Again(t *testing.T) {
	m := by(wayTo(1, "\x0a\x01\x07\x00", 24), ipv4Next)
	l := []api.Msg{m, m, {Kind: api.Ack, Subs: []api.Sub{{Type: 2, Data: "a"}}}}
	want := spelled(l)
	for range 3 {
		bytes, _, err := Encode(l)
		n := Plain(l)
		kept := slices.Clone(l)
		l[0], l[1], l[2].Subs[0] = api.Msg{}, api.Msg{}, api.Sub{Type: 9}
		if bytes != want.bytes || err != api.OK || n != spelledPlain(kept[:2])+7 {
			t.Errorf("Encode = %q, error %d, Plain = %d; want %q", bytes, err, n, want.bytes)
		}
		copy(l, kept)
		l[2].Subs[0] = api.Sub{Type: 2, Data: "a"}
		checkError(t, []api.Msg{m, {Kind: api.Ack}, with(m, "Next", "")}, 2, api.ErrCtx)
		checkError(t, append(l, api.Msg{}), 3, api.ErrArg)
		// Nothing is known ahead of the first message, whatever was written.
		checkBody(t, []api.Msg{with(m, "Next", "")}, who(id)+"\x08\x0d\x01\x80\x18\x00"+numbers+"\x0a\x01\x07")
	}
}

// All calls end, whatever they are asked for.
func TestP25_2Ends(t *testing.T) {
	texts := []string{"", "a", ipv4Addr, id, linkAddr, ipv6Addr, strings.Repeat("\xff", 17), strings.Repeat("a", 70000)}
	numbers := []int{math.MinInt, -1, 0, 1, 3, 4, 128, 255, 256, 65535, 65536, 1 << 32, math.MaxInt}
	r := rand.New(rand.NewSource(4))
	for range 20000 {
		text := func() string { return texts[r.Intn(len(texts))] }
		number := func() int { return numbers[r.Intn(len(numbers))] }
		m := api.Msg{Kind: r.Intn(17), Ae: number(), Prefix: text(), Plen: number(), Next: text(), Metric: number(), Id: text(),
			Seq: number(), Interval: number(), Flags: number(), Hops: number(), Nonce: number(), Cost: number(), Addr: text(),
			Type: number(), Data: text(), Subs: []api.Sub{{Type: number(), Data: text()}}}
		l := []api.Msg{{Kind: api.Ack}, m, m}
		checkAnswer(t, l, spelled(l))
		checkPlain(t, l)
	}
}
