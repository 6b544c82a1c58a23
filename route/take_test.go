package route

import (
	"strings"
	"testing"

	"roadbook/api"
)

func TestP21_2TakeExamples(t *testing.T) {
	u := api.Raw{Ae: 1, Flags: 128, Plen: 24, Omitted: 2, Interval: 1, Seq: 2, Metric: 3, Have: 1, Bytes: "\x07"}
	checkTake(t, "\x01\x80\x18\x02\x00\x01\x00\x02\x00\x03\x07", u)
	checkTake(t, "\x01\x80\x18\x02\x00\x01\x00\x02\x00\x03\x07\x00\x01\x00", u)
	checkTake(t, "\x01\x80\x18\x02\x00\x01\x00\x02\x00\x03\x07\x80\x00", with(u, "Have", 0))
	checkTake(t, "\x01\x80\x18\x02\x00\x01\x00\x02\x00\x03\x07\x02\x01a", with(u, "Subs", []api.Sub{{Type: 2, Data: "a"}}))
	checkTake(t, "\x00\x00\x00\x00\x00\x00\x00\x00\xff\xff", api.Raw{Metric: 65535, Have: 1})
	checkTake(t, "\x02\xc0\x00\x00\x01\x02\x03\x04\x05\x06", api.Raw{Ae: 2, Flags: 192, Interval: 258, Seq: 772, Metric: 1286, Have: 1})
	checkTake(t, "\x03\x40\x48\x00\x01\x02\x03\x04\x05\x06\x7f", api.Raw{Ae: 3, Flags: 64, Plen: 72, Interval: 258, Seq: 772, Metric: 1286, Have: 1, Bytes: "\x7f"})
	checkTake(t, "\x03\x40\x48\x01\x01\x02\x03\x04\x05\x06", api.Raw{Ae: 3, Flags: 64, Plen: 72, Omitted: 1, Interval: 258, Seq: 772, Metric: 1286, Have: 1})
	checkError(t, 8, "\x00\x00\x00\x00\x00\x00\x00\x00\xff", api.ErrShort)
	checkNothing(t, 8, "\x04\x00\x00\x00\x00\x00\x00\x00\xff\xff")
	checkError(t, 8, "\x00\x00\x01\x00\x00\x00\x00\x00\xff\xff\x00", api.ErrRange)
	checkError(t, 8, "\x00\x00\x00\x01\x00\x00\x00\x00\xff\xff\x00", api.ErrRange)
	checkError(t, 8, "\x01\x80\x18\x04\x00\x01\x00\x02\x00\x03\x07\x08\x09\x0a", api.ErrRange)
	checkError(t, 8, "\x01\x80\x18\x02\x00\x01\x00\x02\x00\x03", api.ErrShort)
	checkError(t, 8, "\x01\x80\x18\x02\x00\x01\x00\x02\x00\x03\x07\x02", api.ErrShort)
	checkError(t, 8, "\x01\x80\x18\x02\x00\x01\x00\x02\x00\x03\x07\x02\xc7"+strings.Repeat("a", 199), api.ErrLong)
}

// All encodings, and lengths about the edges, with as many bytes left out as may
// be, all there, and each count of bytes less.
func TestP21_2TakeUpdates(t *testing.T) {
	for _, u := range updates() {
		data := spelledUpdate(u)
		checkTake(t, data, u)
		for n := range 10 + len(u.Bytes) {
			checkError(t, 8, data[:n], api.ErrShort)
		}
	}
	checkError(t, 8, "", api.ErrShort)
}

// Bytes that are left out, of each number, beside as many others as any prefix
// has, and one less than there are of this one.
func TestP21_2TakeOmitted(t *testing.T) {
	const bytes = "\xf1\xf2\xf3\xf4\xf5\xf6\xf7\xf8\xf9\xfa\xfb\xfc\xfd\xfe\xff\xf0"
	for ae := range 4 {
		for plen := lengths[ae][0]; plen <= lengths[ae][1]; plen++ {
			need := size(ae, plen)
			for omitted := range 256 {
				data := fields(8, ae, plen, omitted)
				if omitted > need {
					checkError(t, 8, data, api.ErrRange)
					checkError(t, 8, data+bytes, api.ErrRange)
					continue
				}
				left := need - omitted
				u := api.Raw{Ae: ae, Flags: 0x81, Plen: plen, Omitted: omitted, Interval: 0x0102, Seq: 0x0304, Metric: 0x0506, Have: 1, Bytes: bytes[:left]}
				checkTake(t, data+bytes[:left], u)
				checkTake(t, data+bytes[:left]+"\x00", u)
				checkTake(t, data+bytes[:left]+"\x03\x00", with(u, "Subs", []api.Sub{{Type: 3}}))
				if left > 0 {
					checkError(t, 8, data+bytes[:left-1], api.ErrShort)
				}
			}
		}
	}
}

// The fields, the Flags among them, are told as they stand, whatever they are.
func TestP21_2TakeEachBit(t *testing.T) {
	for _, u := range updates() {
		data := spelledUpdate(u)
		for bit := range 8 * (10 + len(u.Bytes)) {
			checkTlv(t, 8, wrongAt(data, bit))
		}
	}
	for flags := range 256 {
		checkTake(t, "\x01"+string([]byte{byte(flags)})+"\x08\x00\x01\x02\x03\x04\x05\x06a", api.Raw{Ae: 1, Flags: flags, Plen: 8, Interval: 258, Seq: 772, Metric: 1286, Have: 1, Bytes: "a"})
	}
	for _, n := range goodNums {
		checkTake(t, "\x01\x00\x08\x00"+spelledNum(n)+"\x03\x04\x05\x06a", api.Raw{Ae: 1, Plen: 8, Interval: n, Seq: 772, Metric: 1286, Have: 1, Bytes: "a"})
		checkTake(t, "\x01\x00\x08\x00\x01\x02"+spelledNum(n)+"\x05\x06a", api.Raw{Ae: 1, Plen: 8, Interval: 258, Seq: n, Metric: 1286, Have: 1, Bytes: "a"})
		checkTake(t, "\x01\x00\x08\x00\x01\x02\x03\x04"+spelledNum(n)+"a", api.Raw{Ae: 1, Plen: 8, Interval: 258, Seq: 772, Metric: n, Have: 1, Bytes: "a"})
	}
}

// Bits behind the length stand in Bytes as they stood.
func TestP21_2TakeBitsBehind(t *testing.T) {
	for ae := 1; ae < 4; ae++ {
		for plen := lengths[ae][0]; plen <= lengths[ae][1]; plen++ {
			if plen%8 == 0 {
				continue
			}
			for v := range 256 {
				need := size(ae, plen)
				bytes := strings.Repeat("\xa5", need-1) + string([]byte{byte(v)})
				u := api.Raw{Ae: ae, Flags: 0x81, Plen: plen, Interval: 0x0102, Seq: 0x0304, Metric: 0x0506, Have: 1, Bytes: bytes}
				checkTake(t, fields(8, ae, plen, 0)+bytes, u)
				u.Omitted, u.Bytes = need-1, bytes[need-1:]
				checkTake(t, fields(8, ae, plen, need-1)+u.Bytes, u)
			}
		}
	}
}

// What stands behind the prefix's bytes: nothing, padding, what is kept, and
// what must be known, beside which that is kept all the same.
func TestP21_2TakeSubs(t *testing.T) {
	for _, u := range updates() {
		u.Subs = nil
		data := spelledUpdate(u)
		for _, b := range behind {
			want := with(u, "Subs", b.subs)
			if !b.known {
				want.Have = 0
			}
			checkTake(t, data+b.bytes, want)
		}
		for _, subs := range lists() {
			checkTake(t, data+spelledSubs(subs), with(u, "Subs", subs))
			checkTake(t, data+spelledSubs(subs)+"\x80\x00", with(with(u, "Subs", subs), "Have", 0))
			checkTake(t, data+"\xff\x01a"+spelledSubs(subs), with(with(u, "Subs", subs), "Have", 0))
		}
	}
	u := api.Raw{Ae: 1, Flags: 0x81, Plen: 8, Interval: 0x0102, Seq: 0x0304, Metric: 0x0506, Have: 1, Bytes: "a"}
	for kind := 1; kind < 256; kind++ {
		switch s := "a" + spelledSubs([]api.Sub{{Type: kind}}); {
		case kind < 2:
			checkTake(t, fields(8, 1, 8, 0)+s, u)
		case kind > 127:
			checkTake(t, fields(8, 1, 8, 0)+s, with(u, "Have", 0))
		default:
			checkTake(t, fields(8, 1, 8, 0)+s, with(u, "Subs", []api.Sub{{Type: kind}}))
		}
	}
}

// Sub-TLVs that aren't all there, or are too long, are told as they are; and so
// they are beside one that must be known.
func TestP21_2TakeWrongSubs(t *testing.T) {
	for _, u := range updates() {
		u.Subs = nil
		data := spelledUpdate(u)
		for _, b := range wrongBehind {
			checkError(t, 8, data+b.bytes, b.err)
			checkError(t, 8, data+"\x80\x00"+b.bytes, b.err)
			checkError(t, 8, data+"\x00\x01\x00"+b.bytes, b.err)
		}
		for _, subs := range tooLong() {
			checkError(t, 8, data+spelledSubs(subs), api.ErrLong)
			checkError(t, 8, data+spelledSubs(subs)+"\x02", api.ErrShort)
			checkError(t, 8, data+spelledSubs(subs)+"\x80\x00", api.ErrLong)
		}
	}
}

// Of several errors the one that is named first is told: fields that aren't
// there, the encoding, the length and what is left out, the prefix's bytes, and
// the sub-TLVs.
func TestP21_2TakeSeveral(t *testing.T) {
	const numbers, wrongSubs = "\x00\x01\x00\x02\x00\x03", "\x80\x00\x02"
	checkError(t, 8, "\x04\x00\xff\xff"+numbers[:5], api.ErrShort)
	checkError(t, 8, "\x01\x00\xff\xff"+numbers[:5], api.ErrShort)
	checkNothing(t, 8, "\x04\x00\xff\xff"+numbers+wrongSubs)
	checkError(t, 8, "\x01\x00\x21\x00"+numbers+wrongSubs, api.ErrRange)
	checkError(t, 8, "\x01\x00\x21\xff"+numbers+wrongSubs, api.ErrRange)
	checkError(t, 8, "\x01\x00\x18\x04"+numbers+wrongSubs, api.ErrRange)
	checkError(t, 8, "\x01\x00\x18\x04"+numbers, api.ErrRange)
	checkError(t, 8, "\x03\x00\x3f\x00"+numbers, api.ErrRange)
	checkError(t, 8, "\x03\x00\x3f\x09"+numbers+wrongSubs, api.ErrRange)
	checkError(t, 8, "\x03\x00\x40\x01"+numbers+"\x02\x00", api.ErrRange)
	checkError(t, 8, "\x03\x00\x00\x00"+numbers+"\x02\x00", api.ErrRange)
	checkError(t, 8, "\x01\x00\x20\x01"+numbers+"\x80\x00", api.ErrShort)
	checkError(t, 8, "\x01\x00\x20\x02"+numbers+"ab"+wrongSubs, api.ErrShort)
	checkError(t, 8, "\x01\x00\x20\x02"+numbers+"ab\x80\x00\x05\xc7"+strings.Repeat("a", 199), api.ErrLong)
}
