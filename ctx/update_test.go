package ctx

import (
	"strings"
	"testing"

	"roadbook/api"
)

// numbers are an Update's Interval, Seq and Metric.
const numbers = "\x00\x01\x00\x02\x00\x03"

func TestP22_1UpdateExamples(t *testing.T) {
	c := api.Ctx{Prefix: [4]string{"", "\x0a\x01\x02\x00"}, Next: [2]string{ipv4Next, linkNext}, Id: id}
	m := api.Msg{Kind: api.Update, Ae: 1, Prefix: "\x0a\x01\x07\x00", Plen: 24, Interval: 1, Seq: 2, Metric: 3, Id: id, Next: ipv4Next}
	checkAnswer(t, c, 8, "\x01\x00\x18\x02"+numbers+"\x07", answer{ctx: c, told: []api.Msg{m}})
	d := with(c, "Prefix", [4]string{"", "\x0a\x01\x07\x00"})
	checkAnswer(t, c, 8, "\x01\x80\x18\x02"+numbers+"\x07", answer{ctx: d, told: []api.Msg{m}})
	checkAnswer(t, c, 8, "\x01\x80\x18\x02"+numbers+"\x07\x80\x00", answer{ctx: d})
	checkAnswer(t, c, 8, "\x01\x80\x18\x02"+numbers+"\x07\x02\x01a", answer{ctx: d, told: []api.Msg{with(m, "Subs", []api.Sub{{Type: 2, Data: "a"}})}})
	who := "\x00\x00\x00\x00\x0a\x01\x07\x00"
	checkAnswer(t, c, 8, "\x01\xc0\x18\x02"+numbers+"\x07", answer{ctx: with(d, "Id", who), told: []api.Msg{with(m, "Id", who)}})
	checkAnswer(t, c, 8, "\x01\x40\x18\x02"+numbers+"\x07\x80\x00", answer{ctx: with(c, "Id", who)})
	checkAnswer(t, c, 8, "\x01\x00\x17\x02"+numbers+"\x07", answer{ctx: c, told: []api.Msg{with(with(m, "Prefix", "\x0a\x01\x06\x00"), "Plen", 23)}})
	far := with(with(with(m, "Metric", 65535), "Id", ""), "Next", "")
	checkAnswer(t, c, 8, "\x01\x00\x18\x02\x00\x01\x00\x02\xff\xff\x07", answer{ctx: c, told: []api.Msg{far}})
	checkError(t, api.Ctx{Id: id}, 8, "\x01\x00\x18\x02"+numbers+"\x07", api.ErrCtx)
	checkNothing(t, with(c, "Id", ""), 8, "\x01\x00\x18\x02"+numbers+"\x07")
	checkNothing(t, c, 8, "\x04\xc0\x18\x02"+numbers+"\x07")
	checkNothing(t, c, 8, "\x00\xc0\x00\x00"+numbers)
	anywhere := api.Msg{Kind: api.Update, Interval: 1, Seq: 2, Metric: 65535}
	checkAnswer(t, c, 8, "\x00\xc0\x00\x00\x00\x01\x00\x02\xff\xff", answer{ctx: c, told: []api.Msg{anywhere}})
}

func TestP22_1UpdateExamplesIpv6(t *testing.T) {
	c := api.Ctx{Prefix: all.Prefix, Next: [2]string{ipv4Next, ipv6Next}, Id: id}
	m := api.Msg{Kind: api.Update, Ae: 2, Prefix: "\xb1\xb2\x07" + strings.Repeat("\x00", 13), Plen: 24, Interval: 1, Seq: 2, Metric: 3, Id: id, Next: ipv6Next}
	checkAnswer(t, c, 8, "\x02\x00\x18\x02"+numbers+"\x07", answer{ctx: c, told: []api.Msg{m}})
	who := strings.Repeat("\x00", 8)
	d := api.Ctx{Prefix: [4]string{"", ipv4Addr, m.Prefix, linkAddr}, Next: c.Next, Id: who}
	checkAnswer(t, c, 8, "\x02\xc0\x18\x02"+numbers+"\x07", answer{ctx: d, told: []api.Msg{with(m, "Id", who)}})
	// The bytes that are left out are those behind the first eight.
	m = api.Msg{Kind: api.Update, Ae: 3, Prefix: head + "\xc1\xc2\x07\x00\x00\x00\x00\x00", Plen: 88, Interval: 1, Seq: 2, Metric: 3, Id: id, Next: ipv6Next}
	checkAnswer(t, c, 8, "\x03\x00\x58\x02"+numbers+"\x07", answer{ctx: c, told: []api.Msg{m}})
	who = m.Prefix[8:]
	d = api.Ctx{Prefix: [4]string{"", ipv4Addr, ipv6Addr, m.Prefix}, Next: c.Next, Id: who}
	checkAnswer(t, c, 8, "\x03\xc0\x58\x02"+numbers+"\x07", answer{ctx: d, told: []api.Msg{with(m, "Id", who)}})
	checkError(t, with(c, "Prefix", [4]string{"", ipv4Addr, ipv6Addr}), 8, "\x03\x00\x58\x02"+numbers+"\x07", api.ErrCtx)
	checkError(t, with(c, "Prefix", [4]string{"", ipv4Addr, "", linkAddr}), 8, "\x02\x00\x58\x02"+numbers+"\x07abcdefgh", api.ErrCtx)
	checkAnswer(t, c, 8, "\x03\x80\x40\x00\x00\x01\x00\x02\xff\xff", answer{
		ctx:  with(c, "Prefix", [4]string{"", ipv4Addr, ipv6Addr, head + "\x00\x00\x00\x00\x00\x00\x00\x00"}),
		told: []api.Msg{{Kind: api.Update, Ae: 3, Prefix: head + "\x00\x00\x00\x00\x00\x00\x00\x00", Plen: 64, Interval: 1, Seq: 2, Metric: 65535}},
	})
}

// All that may be known, beside each encoding, with each of both flags and
// neither, with a way and without, with what must be known and without.
func TestP22_1UpdateEach(t *testing.T) {
	for _, u := range updates() {
		for _, flags := range []int{0, 64, 128, 192, 63, 255} {
			for _, metric := range []int{0, 0xc1c2, 65534, 65535} {
				u.Flags, u.Metric = flags, metric
				data := spelled(u)
				for _, c := range few() {
					checkStep(t, c, 8, data)
					checkStep(t, c, 8, data+"\x80\x00")
					checkStep(t, c, 8, data+"\x02\x00\x01\x00")
				}
			}
		}
	}
	for _, c := range contexts() {
		for ae := range 4 {
			for _, flags := range []int{0, 64, 128, 192} {
				for _, metric := range []int{0, 65535} {
					plen := lengths[ae][1]
					u := api.Raw{Ae: ae, Flags: flags, Plen: plen, Metric: metric, Bytes: strings.Repeat("\x81", size(ae, plen))}
					checkStep(t, c, 8, spelled(u))
					checkStep(t, c, 8, spelled(u)+"\x80\x00")
					if ae > 0 {
						u.Omitted, u.Bytes = 1, u.Bytes[1:]
						checkStep(t, c, 8, spelled(u))
						checkStep(t, c, 8, spelled(u)+"\x80\x00")
					}
				}
			}
		}
	}
}

// Each value of the flags: the other bits say nothing.
func TestP22_1UpdateFlags(t *testing.T) {
	for flags := range 256 {
		for _, data := range []string{"\x00\x00" + numbers, "\x00\x00\x00\x01\x00\x02\xff\xff"} {
			checkStep(t, all, 8, "\x00"+string([]byte{byte(flags)})+data)
		}
		for ae := 1; ae < 4; ae++ {
			data := string([]byte{byte(ae), byte(flags), byte(lengths[ae][1]), 0}) + numbers + strings.Repeat("\x81", size(ae, lengths[ae][1]))
			d, l, err := Step(all, api.Tlv{Type: 8, Data: data})
			if err != api.OK || len(l) != 1 || l[0].Id != d.Id || (d.Prefix[ae] != all.Prefix[ae]) != (flags > 127) || (d.Id != id) != (flags>>6&1 == 1) {
				t.Errorf("the flags %d, of the encoding %d, leave %s behind", flags, ae, sketch(d))
			}
			checkStep(t, all, 8, data)
			checkStep(t, api.Ctx{}, 8, data)
		}
	}
}

// Bytes that are left out, as many as each length has, and one more, where there
// is a default prefix of that encoding, and where there are all others.
func TestP22_1UpdateOmitted(t *testing.T) {
	for ae := range 4 {
		without := all
		without.Prefix[ae] = ""
		for plen := lengths[ae][0]; plen <= lengths[ae][1]; plen++ {
			need := size(ae, plen)
			for omitted := range need + 1 {
				u := api.Raw{Ae: ae, Flags: 128, Plen: plen, Omitted: omitted, Metric: 1, Bytes: strings.Repeat("\xff", need-omitted)}
				checkStep(t, all, 8, spelled(u))
				checkStep(t, without, 8, spelled(u))
				if omitted > 0 {
					checkError(t, without, 8, spelled(u), api.ErrCtx)
					checkError(t, without, 8, spelled(u)+"\x80\x00", api.ErrCtx)
				}
			}
			u := api.Raw{Ae: ae, Plen: plen, Omitted: need + 1, Metric: 65535}
			checkError(t, all, 8, spelled(u), api.ErrRange)
			checkError(t, without, 8, spelled(u), api.ErrRange)
		}
	}
}

// All bits of the prefix left out: of the default prefix those up to the length
// count, and no other.
func TestP22_1UpdateBitsOmitted(t *testing.T) {
	for ae := 1; ae < 4; ae++ {
		c := api.Ctx{Id: id}
		c.Prefix[ae] = [4]string{1: "\xff\xff\xff\xff", 2: strings.Repeat("\xff", 16), 3: head + strings.Repeat("\xff", 8)}[ae]
		for plen := lengths[ae][0]; plen <= lengths[ae][1]; plen++ {
			a := clean(c.Prefix[ae], plen)
			u := api.Raw{Ae: ae, Flags: 128, Plen: plen, Omitted: size(ae, plen), Metric: 1}
			d := c
			d.Prefix[ae] = a
			m := api.Msg{Kind: api.Update, Ae: ae, Prefix: a, Plen: plen, Metric: 1, Id: id}
			checkAnswer(t, c, 8, spelled(u), answer{ctx: d, told: []api.Msg{m}})
		}
	}
}

// Bits behind the length that are set are in no address, no default prefix, and
// no router-id.
func TestP22_1UpdateBitsBehind(t *testing.T) {
	for ae := 1; ae < 4; ae++ {
		for plen := lengths[ae][0]; plen <= lengths[ae][1]; plen++ {
			if plen%8 == 0 {
				continue
			}
			need := size(ae, plen)
			for v := range 256 {
				u := api.Raw{Ae: ae, Flags: 192, Plen: plen, Bytes: strings.Repeat("\xa5", need-1) + string([]byte{byte(v)})}
				d, l, err := Step(api.Ctx{}, api.Tlv{Type: 8, Data: spelled(u)})
				if err != api.OK || len(l) != 1 || !in(ae, l[0].Prefix, plen) || d.Prefix[ae] != l[0].Prefix || !strings.HasSuffix(l[0].Prefix, d.Id[4:]) {
					t.Errorf("%.99q tells %s, and leaves %s behind", spelled(u), sketch(l), sketch(d))
				}
				checkStep(t, api.Ctx{}, 8, spelled(u))
				u.Omitted, u.Bytes = need-1, u.Bytes[need-1:]
				checkStep(t, all, 8, spelled(u))
			}
		}
	}
}

// Of the empty prefix Metric Far alone is told, and no flag says anything.
func TestP22_1UpdateEmpty(t *testing.T) {
	for _, c := range contexts() {
		for _, flags := range []int{0, 64, 128, 192, 255} {
			for _, metric := range goodNums {
				u := api.Raw{Flags: flags, Interval: 258, Seq: 772, Metric: metric}
				if metric < 65535 {
					checkNothing(t, c, 8, spelled(u))
					continue
				}
				m := api.Msg{Kind: api.Update, Interval: 258, Seq: 772, Metric: 65535}
				checkAnswer(t, c, 8, spelled(u), answer{ctx: c, told: []api.Msg{m}})
				checkNothing(t, c, 8, spelled(u)+"\x80\x00")
				u.Subs = []api.Sub{{Type: 2, Data: "a"}}
				m.Subs = u.Subs
				checkAnswer(t, c, 8, spelled(u), answer{ctx: c, told: []api.Msg{m}})
			}
		}
	}
	for plen := range 256 {
		for _, omitted := range []int{0, 1, 255} {
			u := api.Raw{Plen: plen, Omitted: omitted, Metric: 65535}
			if plen+omitted > 0 {
				checkError(t, all, 8, spelled(u)+strings.Repeat("\x00", 16), api.ErrRange)
			}
		}
	}
}

// The numbers are told as they stand, each at its own place.
func TestP22_1UpdateNumbers(t *testing.T) {
	for ae := 1; ae < 4; ae++ {
		a := clean(all.Prefix[ae], 72)
		plen := min(72, 8*len(a))
		bytes := a
		if ae == 3 {
			bytes = a[8:]
		}
		bytes = bytes[:size(ae, plen)]
		m := api.Msg{Kind: api.Update, Ae: ae, Prefix: a, Plen: plen, Interval: 258, Seq: 772, Metric: 1286, Id: id, Next: all.Next[Family(ae)]}
		for _, n := range goodNums {
			for i, name := range []string{"Interval", "Seq", "Metric"} {
				nums := []string{"\x01\x02", "\x03\x04", "\x05\x06"}
				nums[i] = spelledNum(n)
				want := with(m, name, n)
				if want.Metric == 65535 {
					want.Id, want.Next = "", ""
				}
				data := string([]byte{byte(ae), 0, byte(plen), 0}) + strings.Join(nums, "") + bytes
				checkAnswer(t, all, 8, data, answer{ctx: all, told: []api.Msg{want}})
			}
		}
	}
}

// A way is told with the router-id that is known then, that of its own address
// too; without one it isn't. That there is no way needs none.
func TestP22_1UpdateId(t *testing.T) {
	own := map[int]string{1: "\x00\x00\x00\x00\xa1\xa2\xa3\xa5", 2: ipv6Addr[8:], 3: linkAddr[8:]}
	for _, c := range contexts() {
		for ae := 1; ae < 4; ae++ {
			a := all.Prefix[ae]
			bytes := a
			if ae == 3 {
				bytes = a[8:]
			}
			m := api.Msg{Kind: api.Update, Ae: ae, Prefix: a, Plen: 8 * len(a), Metric: 9, Id: c.Id, Next: c.Next[Family(ae)]}
			u := api.Raw{Ae: ae, Plen: m.Plen, Metric: 9, Bytes: bytes}
			if c.Id == "" {
				checkNothing(t, c, 8, spelled(u))
			} else {
				checkAnswer(t, c, 8, spelled(u), answer{ctx: c, told: []api.Msg{m}})
			}
			u.Flags, m.Id = 64, own[ae]
			checkAnswer(t, c, 8, spelled(u), answer{ctx: with(c, "Id", own[ae]), told: []api.Msg{m}})
			checkAnswer(t, c, 8, spelled(u)+"\x80\x00", answer{ctx: with(c, "Id", own[ae])})
			u.Metric, m.Metric, m.Id, m.Next = 65535, 65535, "", ""
			checkAnswer(t, c, 8, spelled(u), answer{ctx: with(c, "Id", own[ae]), told: []api.Msg{m}})
			u.Flags = 0
			checkAnswer(t, c, 8, spelled(u), answer{ctx: c, told: []api.Msg{m}})
			checkNothing(t, c, 8, spelled(u)+"\x80\x00")
		}
	}
}

// Fields and a prefix that are all there, and each count of bytes less.
func TestP22_1UpdateShort(t *testing.T) {
	for _, u := range updates() {
		u.Flags = 192
		data := spelled(u)
		for n := range data {
			checkError(t, all, 8, data[:n], api.ErrShort)
		}
		checkError(t, api.Ctx{}, 8, data[:9], api.ErrShort)
	}
	checkError(t, all, 8, "", api.ErrShort)
}

// Each length and each encoding that a byte has.
func TestP22_1UpdateLengths(t *testing.T) {
	for ae := range 256 {
		for plen := range 256 {
			for _, omitted := range []int{0, 1, 255} {
				data := string([]byte{byte(ae), 192, byte(plen), byte(omitted)}) + numbers
				checkStep(t, all, 8, data)
				checkStep(t, all, 8, data+strings.Repeat("\x00", 32))
				switch {
				case ae > 3:
					checkNothing(t, all, 8, data)
					checkNothing(t, api.Ctx{}, 8, data+strings.Repeat("\xff", 32))
				case !long(ae, plen):
					checkError(t, all, 8, data+strings.Repeat("\x00", 32), api.ErrRange)
					checkError(t, api.Ctx{}, 8, data, api.ErrRange)
				}
			}
		}
	}
}

// What stands behind the prefix's bytes: what must be known hides the message,
// not what it says to those behind it; an error hides both.
func TestP22_1UpdateBehind(t *testing.T) {
	for _, u := range updates() {
		u.Flags = 192
		data := spelled(u)
		plain := stepped(all, 8, data)
		for _, b := range behind {
			want := answer{ctx: plain.ctx}
			if b.known && u.Ae > 0 {
				want.told = []api.Msg{with(plain.told[0], "Subs", b.subs)}
			}
			checkAnswer(t, all, 8, data+b.bytes, want)
			checkStep(t, api.Ctx{}, 8, data+b.bytes)
		}
		for _, b := range wrongBehind {
			checkError(t, all, 8, data+b.bytes, b.err)
			checkError(t, all, 8, data+"\x80\x00"+b.bytes, b.err)
			checkError(t, api.Ctx{}, 8, data+b.bytes, b.err)
		}
		for _, l := range lists() {
			checkStep(t, all, 8, data+spelledSubs(l))
		}
	}
}

// Of several errors the one that is named first is told: what isn't known comes
// behind all that the bytes alone have.
func TestP22_1UpdateSeveral(t *testing.T) {
	c := api.Ctx{Next: all.Next, Id: id}
	checkError(t, c, 8, "\x01\xc0\x21\x01"+numbers[:5], api.ErrShort)
	checkNothing(t, c, 8, "\x04\xc0\x21\x01"+numbers+"\x80")
	checkError(t, c, 8, "\x01\xc0\x21\x01"+numbers+"abc\x80", api.ErrRange)
	checkError(t, c, 8, "\x01\xc0\x18\x04"+numbers, api.ErrRange)
	checkError(t, c, 8, "\x03\xc0\x3f\x01"+numbers, api.ErrRange)
	checkError(t, c, 8, "\x01\xc0\x18\x01"+numbers+"a", api.ErrShort)
	checkError(t, c, 8, "\x01\xc0\x18\x01"+numbers+"ab\x80", api.ErrShort)
	checkError(t, c, 8, "\x01\xc0\x18\x01"+numbers+"ab\x05\xc7"+strings.Repeat("a", 199), api.ErrLong)
	checkError(t, c, 8, "\x01\xc0\x18\x01"+numbers+"ab\x80\x00", api.ErrCtx)
	checkError(t, c, 8, "\x01\xc0\x18\x01"+numbers+"ab", api.ErrCtx)
	checkError(t, c, 8, "\x01\xc0\x18\x01\x00\x01\x00\x02\xff\xffab", api.ErrCtx)
	checkError(t, api.Ctx{}, 8, "\x01\x00\x18\x01"+numbers+"ab", api.ErrCtx)
}
