package lean

import (
	"strings"
	"testing"

	"roadbook/api"
)

// numbers are the bytes of an Update's Interval, Seq and Metric, far those of one
// that says that there is no way.
const (
	numbers = "\x01\x02\x03\x04\x05\x06"
	far     = "\x01\x02\x03\x04\xff\xff"
)

// wayTo is an Update of a prefix, by id and no next hop.
func wayTo(ae int, prefix string, plen int) api.Msg {
	return api.Msg{Kind: api.Update, Ae: ae, Prefix: prefix, Plen: plen, Interval: 0x102, Seq: 0x304, Metric: 0x506, Id: id}
}

// noWayTo is an Update of a prefix to which there is no way.
func noWayTo(ae int, prefix string, plen int) api.Msg {
	return with(with(wayTo(ae, prefix, plen), "Id", ""), "Metric", 65535)
}

// known is what is known of that encoding's default prefix alone.
func known(ae int, prefix string) api.Ctx {
	var c api.Ctx
	c.Prefix[ae] = prefix
	return c
}

// Messages whose fields stand alone, requests and opaque ones have one TLV,
// whatever is known, and nothing else is known behind them.
func TestP24_1PutAlone(t *testing.T) {
	subs := []api.Sub{{Type: 2, Data: "ab"}, {Type: 127}}
	for _, c := range lone() {
		check := func(m api.Msg, bytes string) {
			t.Helper()
			checkBytes(t, c, m, bytes, c)
		}
		check(api.Msg{Kind: api.AckReq, Nonce: 0x102, Interval: 0x304}, "\x02\x06\x00\x00\x01\x02\x03\x04")
		check(api.Msg{Kind: api.Ack, Nonce: 7}, "\x03\x02\x00\x07")
		check(api.Msg{Kind: api.Ack, Nonce: 7, Subs: subs}, "\x03\x08\x00\x07\x02\x02ab\x7f\x00")
		check(api.Msg{Kind: api.Hello, Flags: 1, Seq: 1, Interval: 100}, "\x04\x06\x80\x00\x00\x01\x00\x64")
		check(api.Msg{Kind: api.Hello, Seq: 1, Interval: 100, Subs: subs}, "\x04\x0c\x00\x00\x00\x01\x00\x64\x02\x02ab\x7f\x00")
		check(api.Msg{Kind: api.Ihu, Cost: 0x102, Interval: 0x304}, "\x05\x06\x00\x00\x01\x02\x03\x04")
		check(api.Msg{Kind: api.Ihu, Ae: 1, Addr: ipv4Addr}, "\x05\x0a\x01\x00\x00\x00\x00\x00"+ipv4Addr)
		check(api.Msg{Kind: api.Ihu, Ae: 2, Addr: ipv6Addr}, "\x05\x16\x02\x00\x00\x00\x00\x00"+ipv6Addr)
		check(api.Msg{Kind: api.Ihu, Ae: 3, Addr: linkAddr}, "\x05\x0e\x03\x00\x00\x00\x00\x00"+linkAddr[8:])
		check(api.Msg{Kind: api.RouteReq}, "\x09\x02\x00\x00")
		check(api.Msg{Kind: api.RouteReq, Ae: 1, Prefix: "\xa1\xa2\xa2\x00", Plen: 23, Subs: subs}, "\x09\x0b\x01\x17\xa1\xa2\xa2\x02\x02ab\x7f\x00")
		check(api.Msg{Kind: api.RouteReq, Ae: 3, Prefix: linkAddr, Plen: 128}, "\x09\x0a\x03\x80"+linkAddr[8:])
		check(api.Msg{Kind: api.SeqnoReq, Ae: 1, Prefix: ipv4Addr, Plen: 32, Seq: 0x102, Hops: 5, Id: otherId}, "\x0a\x12\x01\x20\x01\x02\x05\x00"+otherId+ipv4Addr)
		check(api.Msg{Kind: api.SeqnoReq, Ae: 2, Prefix: ipv6Addr[:3] + strings.Repeat("\x00", 13), Plen: 24, Hops: 255, Id: id}, "\x0a\x11\x02\x18\x00\x00\xff\x00"+id+ipv6Addr[:3])
		check(api.Msg{Kind: api.Opaque, Type: 11}, "\x0b\x00")
		check(api.Msg{Kind: api.Opaque, Type: 99, Data: "x"}, "\x63\x01x")
		check(api.Msg{Kind: api.Opaque, Type: 255, Data: strings.Repeat("y", 255)}, "\xff\xff"+strings.Repeat("y", 255))
	}
	for _, m := range others() {
		for _, c := range contexts() {
			checkPut(t, c, m)
			if got := spelled(c, m); got.ctx != c || got.err != api.OK {
				t.Errorf("%s has %s, where is known %s", sketch(m), sketch(got), sketch(c))
			}
		}
	}
}

// An Update of each encoding, where nothing is known, and where there is no way.
func TestP24_1PutUpdates(t *testing.T) {
	who := "\x06\x0a\x00\x00" + id
	behind := func(ae int, prefix string) api.Ctx {
		c := known(ae, prefix)
		c.Id = id
		return c
	}
	six := ipv6Addr[:3] + strings.Repeat("\x00", 13)
	link := linkAddr[:10] + strings.Repeat("\x00", 6)
	nothing := api.Ctx{}
	checkBytes(t, nothing, wayTo(1, "\xa1\xa2\xa2\x00", 23), who+"\x08\x0d\x01\x80\x17\x00"+numbers+"\xa1\xa2\xa2", behind(1, "\xa1\xa2\xa2\x00"))
	checkBytes(t, nothing, wayTo(2, six, 24), who+"\x08\x0d\x02\x80\x18\x00"+numbers+ipv6Addr[:3], behind(2, six))
	checkBytes(t, nothing, wayTo(3, link, 80), who+"\x08\x0c\x03\x80\x50\x00"+numbers+linkAddr[8:10], behind(3, link))
	checkBytes(t, nothing, wayTo(3, head+strings.Repeat("\x00", 8), 64), who+"\x08\x0a\x03\x80\x40\x00"+numbers, behind(3, head+strings.Repeat("\x00", 8)))
	checkBytes(t, nothing, wayTo(1, "\x00\x00\x00\x00", 0), who+"\x08\x0a\x01\x80\x00\x00"+numbers, behind(1, "\x00\x00\x00\x00"))
	checkBytes(t, nothing, noWayTo(1, "\xa1\xa2\xa2\x00", 23), "\x08\x0d\x01\x80\x17\x00"+far+"\xa1\xa2\xa2", known(1, "\xa1\xa2\xa2\x00"))
	checkBytes(t, nothing, noWayTo(2, six, 24), "\x08\x0d\x02\x80\x18\x00"+far+ipv6Addr[:3], known(2, six))
	checkBytes(t, nothing, noWayTo(3, link, 80), "\x08\x0c\x03\x80\x50\x00"+far+linkAddr[8:10], known(3, link))
	// Of the empty prefix there is no default prefix, neither ahead nor behind.
	for _, c := range lone() {
		checkBytes(t, c, noWayTo(0, "", 0), "\x08\x0a\x00\x00\x00\x00"+far, c)
		checkBytes(t, c, with(noWayTo(0, "", 0), "Subs", []api.Sub{{Type: 2, Data: "a"}}), "\x08\x0d\x00\x00\x00\x00"+far+"\x02\x01a", c)
	}
	// Whoever is known, and by whichever next hop, nobody has a way that there
	// isn't, and all of that stays known.
	for _, c := range contexts() {
		d := c
		d.Prefix[1] = "\x0a\x01\x07\x00"
		checkBytes(t, c, noWayTo(1, "\x0a\x01\x07\x00", 24), "\x08\x0d\x01\x80\x18\x00"+far+"\x0a\x01\x07", d)
	}
}

// Updates of each encoding, length, Metric and next hop, with Subs, wherever.
func TestP24_1PutAll(t *testing.T) {
	errs := map[api.Errno]int{}
	for _, m := range updates() {
		for _, c := range append(contexts(), lone()...) {
			checkPut(t, c, m)
			errs[spelled(c, m).err]++
		}
		for _, subs := range lists() {
			for _, c := range lone() {
				checkPut(t, c, with(m, "Subs", subs))
			}
		}
	}
	if errs[api.OK] < 1000 || errs[api.ErrCtx] < 1000 {
		t.Errorf("the errors are %v", errs)
	}
}

// Numbers of all sizes, each at its own place.
func TestP24_1PutNumbers(t *testing.T) {
	for _, name := range []string{"Interval", "Seq", "Metric"} {
		for _, n := range []int{0, 1, 127, 128, 255, 256, 257, 32767, 32768, 65279, 65534} {
			for _, c := range lone() {
				m := with(with(wayTo(1, ipv4Addr, 32), "Next", ipv4Next), name, n)
				checkPut(t, c, m)
			}
		}
		for _, n := range []int{-1, 65536, 65537, 1 << 32} {
			checkError(t, all, with(wayTo(1, ipv4Addr, 32), name, n), api.ErrArg)
		}
	}
}

// A router-id is written, unless it is the known one.
func TestP24_1PutIds(t *testing.T) {
	const tail = "\x08\x0e\x01\x80\x20\x00" + numbers + ipv4Addr
	m := wayTo(1, ipv4Addr, 32)
	behind := func(id string) api.Ctx { return api.Ctx{Prefix: [4]string{"", ipv4Addr}, Id: id} }
	checkBytes(t, api.Ctx{}, m, "\x06\x0a\x00\x00"+id+tail, behind(id))
	checkBytes(t, api.Ctx{Id: id}, m, tail, behind(id))
	checkBytes(t, api.Ctx{Id: otherId}, m, "\x06\x0a\x00\x00"+id+tail, behind(id))
	checkBytes(t, api.Ctx{Id: id}, with(m, "Id", otherId), "\x06\x0a\x00\x00"+otherId+tail, behind(otherId))
	zeros := strings.Repeat("\x00", 8)
	checkBytes(t, api.Ctx{}, with(m, "Id", zeros), "\x06\x0a\x00\x00"+zeros+tail, behind(zeros))
	checkBytes(t, api.Ctx{Id: zeros}, with(m, "Id", zeros), tail, behind(zeros))
	for bit := range 64 {
		other := wrongAt(id, bit)
		checkBytes(t, api.Ctx{Id: id}, with(m, "Id", other), "\x06\x0a\x00\x00"+other+tail, behind(other))
	}
	// One that lies in the prefix is written all the same.
	inside := "\x00\x00\x00\x00" + ipv4Addr
	checkBytes(t, api.Ctx{Id: id}, with(m, "Id", inside), "\x06\x0a\x00\x00"+inside+tail, behind(inside))
	// Where there is no way none is written, and the one that is known stays so.
	checkBytes(t, api.Ctx{Id: id}, noWayTo(1, ipv4Addr, 32), "\x08\x0e\x01\x80\x20\x00"+far+ipv4Addr, behind(id))
	checkBytes(t, api.Ctx{}, noWayTo(1, ipv4Addr, 32), "\x08\x0e\x01\x80\x20\x00"+far+ipv4Addr, behind(""))
}

// A next hop is written, unless it is the known one of its family; one that is
// link-local as its short form.
func TestP24_1PutNexts(t *testing.T) {
	spelledNexts := map[string]string{
		ipv4Next:                         "\x07\x06\x01\x00" + ipv4Next,
		ipv4Addr:                         "\x07\x06\x01\x00" + ipv4Addr,
		"\xfe\x80\x00\x00":               "\x07\x06\x01\x00\xfe\x80\x00\x00",
		linkNext:                         "\x07\x0a\x03\x00" + linkNext[8:],
		linkAddr:                         "\x07\x0a\x03\x00" + linkAddr[8:],
		head + strings.Repeat("\x00", 8): "\x07\x0a\x03\x00" + strings.Repeat("\x00", 8),
		ipv6Next:                         "\x07\x12\x02\x00" + ipv6Next,
		strings.Repeat("\x00", 16):       "\x07\x12\x02\x00" + strings.Repeat("\x00", 16),
		wrongAt(linkNext, 63):            "\x07\x12\x02\x00" + wrongAt(linkNext, 63),
		wrongAt(linkNext, 0):             "\x07\x12\x02\x00" + wrongAt(linkNext, 0),
		"\x00\x00\x00\x00\x00\x00\x00\x00" + "1234" + ipv4Next: "\x07\x12\x02\x00\x00\x00\x00\x00\x00\x00\x00\x00" + "1234" + ipv4Next,
	}
	tails := [4]string{1: "\x08\x0e\x01\x80\x20\x00" + numbers + ipv4Addr, 2: "\x08\x1a\x02\x80\x80\x00" + numbers + ipv6Addr, 3: "\x08\x12\x03\x80\x80\x00" + numbers + linkAddr[8:]}
	for ae := 1; ae < 4; ae++ {
		family := min(ae-1, 1)
		m := wayTo(ae, addrs[ae], 8*len(addrs[ae]))
		for next, spelled := range spelledNexts {
			m.Next = next
			if len(next) != len(addrs[ae]) {
				checkError(t, api.Ctx{Id: id}, m, api.ErrArg)
				continue
			}
			check := func(c api.Ctx, bytes string) {
				t.Helper()
				c.Id = id
				behind := c
				behind.Next[family], behind.Prefix[ae] = next, addrs[ae]
				checkBytes(t, c, m, bytes, behind)
			}
			var here, there, other api.Ctx
			here.Next[family] = next
			other.Next[family] = wrongAt(next, 8*len(next)-1)
			there.Next[1-family] = [2]string{ipv4Next, ipv6Next}[1-family]
			check(api.Ctx{}, spelled+tails[ae])
			check(here, tails[ae])
			check(other, spelled+tails[ae])
			check(there, spelled+tails[ae])
			here.Next[1-family] = there.Next[1-family]
			check(here, tails[ae])
			other.Next[1-family] = there.Next[1-family]
			check(other, spelled+tails[ae])
		}
	}
	// Both encodings of IPv6 have one next hop; the router-id stands ahead of it.
	c := api.Ctx{Next: [2]string{ipv4Next, linkNext}}
	m := with(wayTo(2, ipv6Addr, 128), "Next", linkNext)
	checkBytes(t, c, m, "\x06\x0a\x00\x00"+id+tails[2], api.Ctx{Prefix: [4]string{"", "", ipv6Addr}, Next: c.Next, Id: id})
	m.Next = ipv6Next
	checkBytes(t, c, m, "\x06\x0a\x00\x00"+id+spelledNexts[ipv6Next]+tails[2], api.Ctx{Prefix: [4]string{"", "", ipv6Addr}, Next: [2]string{ipv4Next, ipv6Next}, Id: id})
}

// Where a next hop of its family is known, an Update can't have none, unless
// there is no way.
func TestP24_1PutUnsaid(t *testing.T) {
	for ae := 1; ae < 4; ae++ {
		family := min(ae-1, 1)
		for _, plen := range plensOf(ae) {
			m := wayTo(ae, clean(addrs[ae], plen), plen)
			for _, c := range append(contexts(), lone()...) {
				if c.Next[family] != "" {
					checkError(t, c, m, api.ErrCtx)
					// A message that may not be is told ahead of that.
					checkError(t, c, with(m, "Seq", -1), api.ErrArg)
					checkError(t, c, with(m, "Id", ""), api.ErrArg)
					checkError(t, c, with(m, "Subs", []api.Sub{{Type: 1}}), api.ErrArg)
				} else if got := spelled(c, m); got.err != api.OK {
					t.Errorf("%s, where is known %s, has the error %d", sketch(m), sketch(c), got.err)
				}
				checkPut(t, c, m)
				if got := spelled(c, noWayTo(ae, m.Prefix, plen)); got.err != api.OK {
					t.Errorf("no way, where is known %s, has the error %d", sketch(c), got.err)
				}
				checkPut(t, c, noWayTo(ae, m.Prefix, plen))
			}
		}
	}
	for _, other := range []api.Ctx{{Id: id}, {Id: id, Next: [2]string{"", linkNext}}, {Id: id, Next: [2]string{"", ipv6Next}}} {
		behind := other
		behind.Prefix[1] = ipv4Addr
		checkBytes(t, other, wayTo(1, ipv4Addr, 32), "\x08\x0e\x01\x80\x20\x00"+numbers+ipv4Addr, behind)
	}
	other := api.Ctx{Id: id, Next: [2]string{ipv4Next, ""}}
	checkBytes(t, other, wayTo(2, ipv6Addr, 128), "\x08\x1a\x02\x80\x80\x00"+numbers+ipv6Addr, api.Ctx{Prefix: [4]string{"", "", ipv6Addr}, Next: other.Next, Id: id})
	checkBytes(t, other, wayTo(3, linkAddr, 128), "\x08\x12\x03\x80\x80\x00"+numbers+linkAddr[8:], api.Ctx{Prefix: [4]string{"", "", "", linkAddr}, Next: other.Next, Id: id})
}

// The chapter's own example, and others that leave out all or nothing.
func TestP24_1PutLeftOutExamples(t *testing.T) {
	link := func(s string) string { return head + s + strings.Repeat("\x00", 8-len(s)) }
	six := func(s string) string { return s + strings.Repeat("\x00", 16-len(s)) }
	for _, v := range []struct {
		ae            int
		known, prefix string
		plen          int
		bytes         string
	}{
		{1, "\x0a\x01\x02\x00", "\x0a\x01\x07\x00", 24, "\x08\x0b\x01\x80\x18\x02" + far + "\x07"},
		{1, "\x0a\x01\x02\x00", "\x0a\x01\x02\x00", 24, "\x08\x0a\x01\x80\x18\x03" + far},
		{1, "\x0a\x01\x02\x00", "\x0a\x01\x02\x00", 32, "\x08\x0a\x01\x80\x20\x04" + far},
		{1, "\x0a\x01\x02\x00", "\x0b\x01\x02\x00", 24, "\x08\x0d\x01\x80\x18\x00" + far + "\x0b\x01\x02"},
		{1, "\x0a\x01\x02\x00", "\x0a\x02\x02\x00", 24, "\x08\x0c\x01\x80\x18\x01" + far + "\x02\x02"},
		// More noughts alike than the prefix has bytes.
		{1, "\x0a\x00\x00\x00", "\x0a\x00\x00\x00", 8, "\x08\x0a\x01\x80\x08\x01" + far},
		{1, "\x00\x00\x00\x00", "\x00\x00\x00\x00", 0, "\x08\x0a\x01\x80\x00\x00" + far},
		{1, "\x00\x00\x00\x00", "\x00\x00\x00\x00", 9, "\x08\x0a\x01\x80\x09\x02" + far},
		// A byte of which the first bits alone are alike stands.
		{1, "\x0a\x01\x03\x00", "\x0a\x01\x02\x00", 23, "\x08\x0b\x01\x80\x17\x02" + far + "\x02"},
		{1, "\x0a\x01\x03\x00", "\x0a\x00\x00\x00", 9, "\x08\x0b\x01\x80\x09\x01" + far + "\x00"},
		{1, "", "\x0a\x01\x07\x00", 24, "\x08\x0d\x01\x80\x18\x00" + far + "\x0a\x01\x07"},
		{2, six("abcdef"), six("abcdxf"), 48, "\x08\x0c\x02\x80\x30\x04" + far + "xf"},
		{2, six("abcdef"), six("abc"), 24, "\x08\x0a\x02\x80\x18\x03" + far},
		{2, six("abc"), six("abc"), 128, "\x08\x0a\x02\x80\x80\x10" + far},
		{2, six(""), six(""), 0, "\x08\x0a\x02\x80\x00\x00" + far},
		// The first eight bytes of a link-local one, alike always, aren't left out.
		{3, link("abcd"), link("abxd"), 96, "\x08\x0c\x03\x80\x60\x02" + far + "xd"},
		{3, link("abcd"), link("xbcd"), 96, "\x08\x0e\x03\x80\x60\x00" + far + "xbcd"},
		{3, link("abcd"), link(""), 64, "\x08\x0a\x03\x80\x40\x00" + far},
		{3, link("abcd"), link("abcd"), 96, "\x08\x0a\x03\x80\x60\x04" + far},
		{3, link(""), link(""), 128, "\x08\x0a\x03\x80\x80\x08" + far},
		{3, link(""), link("ab"), 80, "\x08\x0c\x03\x80\x50\x00" + far + "ab"},
		{3, "", link("ab"), 80, "\x08\x0c\x03\x80\x50\x00" + far + "ab"},
	} {
		checkBytes(t, known(v.ae, v.known), noWayTo(v.ae, v.prefix, v.plen), v.bytes, known(v.ae, v.prefix))
	}
}

// Default prefixes that have none, one, some and all of the prefix's bytes, and
// one more that is alike: as many are left out, and no more than there are.
func TestP24_1PutLeftOut(t *testing.T) {
	for ae := 1; ae < 4; ae++ {
		first := []int{1: 0, 2: 0, 3: 8}[ae]
		for _, plen := range plensOf(ae) {
			a := clean(addrs[ae], plen)
			m := noWayTo(ae, a, plen)
			need := len(spelledPrefix(m))
			for n := range len(a) - first + 1 {
				c := known(ae, a)
				if n < len(a)-first {
					c = known(ae, wrongAt(a, 8*(first+n)+7))
				}
				left := min(n, need)
				checkBytes(t, c, m, "\x08"+string([]byte{byte(10 + need - left), byte(ae), 128, byte(plen), byte(left)})+far+a[first+left:first+need], known(ae, a))
			}
			// Those of the other encodings change nothing.
			c := known(1, ipv4Addr)
			c.Prefix[2], c.Prefix[3] = linkAddr, linkAddr
			c.Prefix[ae] = ""
			d := c
			d.Prefix[ae] = a
			checkBytes(t, c, m, spelledUpdate(m, 0), d)
		}
	}
	// A link-local prefix of the encoding 2 has its own default prefix, too.
	m := noWayTo(2, linkAddr, 128)
	checkBytes(t, known(2, linkAddr), m, spelledUpdate(m, 16), known(2, linkAddr))
	c := known(3, linkAddr)
	c.Prefix[2] = linkAddr
	checkBytes(t, known(3, linkAddr), m, spelledUpdate(m, 0), c)
}

// A way whose prefix leaves out bytes, said by another one, by another next hop.
func TestP24_1PutTogether(t *testing.T) {
	m := with(wayTo(1, "\x0a\x01\x07\x00", 24), "Next", ipv4Next)
	m.Subs = []api.Sub{{Type: 3, Data: "ab"}}
	c := api.Ctx{Prefix: [4]string{"", "\x0a\x01\x02\x00", ipv6Addr, linkAddr}, Next: [2]string{ipv4Addr, linkNext}, Id: otherId}
	d := api.Ctx{Prefix: [4]string{"", "\x0a\x01\x07\x00", ipv6Addr, linkAddr}, Next: [2]string{ipv4Next, linkNext}, Id: id}
	const tail = "\x08\x0f\x01\x80\x18\x02" + numbers + "\x07\x03\x02ab"
	checkBytes(t, c, m, "\x06\x0a\x00\x00"+id+"\x07\x06\x01\x00"+ipv4Next+tail, d)
	c.Id = id
	checkBytes(t, c, m, "\x07\x06\x01\x00"+ipv4Next+tail, d)
	c.Id, c.Next[0] = otherId, ipv4Next
	checkBytes(t, c, m, "\x06\x0a\x00\x00"+id+tail, d)
	c.Id = id
	checkBytes(t, c, m, tail, d)
	checkBytes(t, d, m, "\x08\x0e\x01\x80\x18\x03"+numbers+"\x03\x02ab", d)
}

// Where a message may not be, there is that error, whatever is known.
func TestP24_1PutErrors(t *testing.T) {
	for _, c := range append(contexts(), lone()...) {
		for _, m := range []api.Msg{
			{},
			{Kind: 15},
			{Kind: api.RrepAck},
			{Kind: api.Ack, Nonce: -1},
			{Kind: api.Ack, Seq: 1},
			{Kind: api.Update},
			{Kind: api.Opaque, Type: 10},
			{Kind: api.Opaque, Type: 256},
			{Kind: api.Opaque, Type: 11, Data: strings.Repeat("a", 256)},
			{Kind: api.RouteReq, Ae: 1, Prefix: ipv4Addr, Plen: 8},
			with(wayTo(1, ipv4Addr, 32), "Ae", 2),
			with(wayTo(1, ipv4Addr, 32), "Next", ipv6Next),
			with(noWayTo(1, ipv4Addr, 32), "Next", ipv4Next),
		} {
			checkError(t, c, m, api.ErrArg)
		}
	}
}
