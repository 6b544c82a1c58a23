package route

import (
	"math"
	"math/rand"
	"slices"
	"strings"
	"testing"

	"roadbook/api"
)

func TestP21_1GetExamples(t *testing.T) {
	checkGet(t, 9, "\x01\x18\x0a\x01\x02", api.Msg{Kind: api.RouteReq, Ae: 1, Prefix: "\x0a\x01\x02\x00", Plen: 24})
	checkGet(t, 9, "\x01\x17\x0a\x01\x03", api.Msg{Kind: api.RouteReq, Ae: 1, Prefix: "\x0a\x01\x02\x00", Plen: 23})
	checkGet(t, 9, "\x00\x00", api.Msg{Kind: api.RouteReq})
	checkGet(t, 9, "\x02\x00", api.Msg{Kind: api.RouteReq, Ae: 2, Prefix: strings.Repeat("\x00", 16)})
	checkGet(t, 9, "\x03\x40", api.Msg{Kind: api.RouteReq, Ae: 3, Prefix: head + "\x00\x00\x00\x00\x00\x00\x00\x00", Plen: 64})
	checkGet(t, 9, "\x03\x41\xff\x02\x01a", api.Msg{Kind: api.RouteReq, Ae: 3, Prefix: head + "\x80\x00\x00\x00\x00\x00\x00\x00", Plen: 65, Subs: []api.Sub{{Type: 2, Data: "a"}}})
	m := api.Msg{Kind: api.SeqnoReq, Ae: 1, Prefix: "\x0a\x01\x02\x00", Plen: 23, Seq: 258, Hops: 5, Id: id}
	checkGet(t, 10, "\x01\x17\x01\x02\x05\x09ABCDEFGH\x0a\x01\x03", m)
	checkGet(t, 10, "\x01\x17\x01\x02\x05\x00ABCDEFGH\x0a\x01\x02\x00\x01\x00", m)
	checkError(t, 9, "\x01", api.ErrShort)
	checkNothing(t, 9, "\x04\x00")
	checkError(t, 9, "\x01\x21\x0a\x01\x02\x03\x04", api.ErrRange)
	checkError(t, 9, "\x01\x18\x0a\x01", api.ErrShort)
	checkError(t, 9, "\x01\x18\x0a\x01\x02\x02", api.ErrShort)
	checkError(t, 9, "\x00\x00\x05\xc7"+strings.Repeat("a", 199), api.ErrLong)
	checkNothing(t, 9, "\x01\x18\x0a\x01\x02\x80\x00")
	checkNothing(t, 10, "\x00\x00\x01\x02\x05\x00ABCDEFGH")
	checkNothing(t, 10, "\x01\x17\x01\x02\x00\x00ABCDEFGH\x0a\x01\x02")
}

// Fields and a prefix that are all there, and each count of bytes less, of each
// length of each encoding.
func TestP21_1GetShort(t *testing.T) {
	for _, m := range plain() {
		typ, data := types[m.Kind], spelledFields(m)
		checkGet(t, typ, data, m)
		for n := range data {
			checkError(t, typ, data[:n], api.ErrShort)
		}
	}
	checkError(t, 9, "", api.ErrShort)
	checkError(t, 10, "", api.ErrShort)
}

// Each length that a byte has, in each encoding that it has, beside as many
// bytes as any prefix has, as many as this one has, and one less.
func TestP21_1GetLengths(t *testing.T) {
	for _, typ := range []int{8, 9, 10} {
		for ae := range 256 {
			for plen := range 256 {
				data := fields(typ, ae, plen, 0)
				checkTlv(t, typ, data)
				checkTlv(t, typ, data+strings.Repeat("\x00", 16))
				switch {
				case ae > 3:
					checkNothing(t, typ, data)
					checkNothing(t, typ, data+strings.Repeat("\xff", 32))
				case !long(ae, plen):
					checkError(t, typ, data, api.ErrRange)
					checkError(t, typ, data+strings.Repeat("\xff", 32), api.ErrRange)
				case size(ae, plen) > 0:
					checkError(t, typ, data+strings.Repeat("\x00", size(ae, plen)-1), api.ErrShort)
				}
			}
		}
	}
	for ae, edges := range lengths {
		for _, typ := range []int{8, 9, 10} {
			checkError(t, typ, fields(typ, ae, edges[1]+1, 0)+strings.Repeat("\x00", 32), api.ErrRange)
			if edges[0] > 0 {
				checkError(t, typ, fields(typ, ae, edges[0]-1, 0)+strings.Repeat("\x00", 32), api.ErrRange)
			}
			if typ == 10 && ae == 0 {
				continue
			}
			for _, plen := range edges {
				_, is, err := split(typ, fields(typ, ae, plen, 0)+strings.Repeat("\x00", 32))
				if !is || err != api.OK {
					t.Errorf("the type %d, of the length %d in the encoding %d, has the error %d", typ, plen, ae, err)
				}
				checkTlv(t, typ, fields(typ, ae, plen, 0)+strings.Repeat("\x00", 32))
			}
		}
	}
}

// fields are fields ahead of a prefix's bytes that are all there; those that
// aren't said are others.
func fields(typ, ae, plen, omitted int) string {
	switch typ {
	case 8:
		return string([]byte{byte(ae), 0x81, byte(plen), byte(omitted)}) + "\x01\x02\x03\x04\x05\x06"
	case 9:
		return string([]byte{byte(ae), byte(plen)})
	}
	return string([]byte{byte(ae), byte(plen)}) + "\x01\x02\x03\x04" + id
}

// An encoding that there isn't says nothing, whatever stands behind the fields;
// but those must be there.
func TestP21_1GetOtherEncodings(t *testing.T) {
	for _, typ := range []int{8, 9, 10} {
		for ae := 4; ae < 256; ae++ {
			for _, plen := range []int{0, 32, 64, 128, 129, 255} {
				data := fields(typ, ae, plen, 255)
				checkNothing(t, typ, data)
				for n := range data {
					checkError(t, typ, data[:n], api.ErrShort)
				}
				for _, b := range behind {
					checkNothing(t, typ, data+b.bytes)
				}
				for _, b := range wrongBehind {
					checkNothing(t, typ, data+b.bytes)
				}
			}
		}
	}
}

// Bits behind the length, and the byte that has no name, of any value, aren't
// looked at, and come back as 0.
func TestP21_1GetWithoutName(t *testing.T) {
	for _, m := range plain() {
		typ, data := types[m.Kind], spelledFields(m)
		if last := m.Plen % 8; last > 0 {
			for v := range 1 << (8 - last) {
				b := []byte(data)
				b[len(b)-1] |= byte(v)
				checkGet(t, typ, string(b), m)
				checkGet(t, typ, string(b)+"\x02\x00", with(m, "Subs", []api.Sub{{Type: 2}}))
			}
		}
		if m.Kind != api.SeqnoReq || m.Plen%8 != 1 {
			continue
		}
		for v := range 256 {
			b := []byte(data)
			b[5] = byte(v)
			checkGet(t, typ, string(b), m)
		}
	}
}

// Each bit of the fields, and of the prefix, is read at its own place.
func TestP21_1GetEachBit(t *testing.T) {
	for _, m := range messages() {
		typ, data := types[m.Kind], spelledData(m)
		for bit := range 8 * len(spelledFields(m)) {
			checkTlv(t, typ, wrongAt(data, bit))
		}
	}
}

// A seqno request of the encoding 0, or without a hop left, says nothing; but
// its errors are told.
func TestP21_1GetIdle(t *testing.T) {
	none := "\x00\x00\x01\x02\x03\x00" + id
	gone := "\x01\x17\x01\x02\x00\x00" + id + "\x0a\x01\x02"
	both := "\x00\x00\x01\x02\x00\x00" + id
	for _, data := range []string{none, gone, both} {
		for n := range data {
			checkError(t, 10, data[:n], api.ErrShort)
		}
		for _, b := range behind {
			checkNothing(t, 10, data+b.bytes)
		}
		for _, b := range wrongBehind {
			checkError(t, 10, data+b.bytes, b.err)
		}
		wrong := data[:1] + "\x21" + data[2:]
		checkError(t, 10, wrong, api.ErrRange)
		checkError(t, 10, wrong+strings.Repeat("\x01", 20), api.ErrRange)
	}
	for ae := 1; ae < 4; ae++ {
		plen := lengths[ae][1]
		for hops := range 256 {
			data := string([]byte{byte(ae), byte(plen)}) + "\x01\x02" + string([]byte{byte(hops)}) + "\x00" + id + strings.Repeat("a", size(ae, plen))
			if hops == 0 {
				checkNothing(t, 10, data)
			} else {
				checkGet(t, 10, data, api.Msg{Kind: api.SeqnoReq, Ae: ae, Prefix: filled(ae, strings.Repeat("a", size(ae, plen)), plen), Plen: plen, Seq: 258, Hops: hops, Id: id})
			}
		}
	}
	// A route request has neither a Hops, nor an encoding that says nothing.
	checkGet(t, 9, "\x00\x00", api.Msg{Kind: api.RouteReq})
	checkGet(t, 9, "\x01\x20\x01\x02\x00\x03", api.Msg{Kind: api.RouteReq, Ae: 1, Prefix: "\x01\x02\x00\x03", Plen: 32})
}

// What stands behind the prefix's bytes: nothing, padding, what is kept, and
// what must be known.
func TestP21_1GetSubs(t *testing.T) {
	for _, m := range some() {
		typ, data := types[m.Kind], spelledFields(m)
		for _, b := range behind {
			if b.known {
				checkGet(t, typ, data+b.bytes, with(m, "Subs", b.subs))
			} else {
				checkNothing(t, typ, data+b.bytes)
			}
		}
		for _, subs := range lists() {
			checkGet(t, typ, data+spelledSubs(subs), with(m, "Subs", subs))
		}
		for kind := 1; kind < 256; kind++ {
			switch s := spelledSubs([]api.Sub{{Type: kind}}); {
			case kind < 2:
				checkGet(t, typ, data+s, m)
			case kind > 127:
				checkNothing(t, typ, data+s)
			default:
				checkGet(t, typ, data+s, with(m, "Subs", []api.Sub{{Type: kind}}))
			}
		}
	}
}

// Sub-TLVs that aren't all there, or are too long, are told as they are; and so
// they are beside one that must be known.
func TestP21_1GetWrongSubs(t *testing.T) {
	for _, m := range some() {
		typ, data := types[m.Kind], spelledFields(m)
		for _, b := range wrongBehind {
			checkError(t, typ, data+b.bytes, b.err)
			checkError(t, typ, data+"\x80\x00"+b.bytes, b.err)
			checkError(t, typ, data+"\x00\x01\x00"+b.bytes, b.err)
		}
		for _, subs := range tooLong() {
			checkError(t, typ, data+spelledSubs(subs), api.ErrLong)
			checkError(t, typ, data+spelledSubs(subs)+"\x02", api.ErrShort)
			checkError(t, typ, data+spelledSubs(subs)+"\x80\x00", api.ErrLong)
		}
		for n := range 256 {
			s := spelledSubs([]api.Sub{sized(7, n)})
			if n > 198 {
				checkError(t, typ, data+s, api.ErrLong)
			} else {
				checkGet(t, typ, data+s, with(m, "Subs", []api.Sub{sized(7, n)}))
			}
			checkError(t, typ, data+s[:len(s)-1], api.ErrShort)
		}
	}
}

// Of several errors the one that is named first is told: fields that aren't
// there, the encoding, the length, the prefix's bytes, the sub-TLVs, and then
// what says nothing.
func TestP21_1GetSeveral(t *testing.T) {
	const wrongSubs, unknown = "\x80\x00\x02", "\x80\x00"
	checkError(t, 10, "\x04\xff\x00\x00\x00\x00ABCDEFG", api.ErrShort)
	checkError(t, 10, "\x01\xff\x00\x00\x00\x00ABCDEFG", api.ErrShort)
	checkError(t, 9, "\x04", api.ErrShort)
	checkError(t, 9, "\xff", api.ErrShort)
	checkNothing(t, 10, "\x04\xff\x00\x00\x00\x00ABCDEFGH"+wrongSubs)
	checkNothing(t, 9, "\x04\xff"+wrongSubs)
	for ae, edges := range lengths {
		for _, typ := range []int{9, 10} {
			over := fields(typ, ae, edges[1]+1, 0)
			if typ == 10 {
				over = over[:4] + "\x00" + over[5:]
			}
			checkError(t, typ, over, api.ErrRange)
			checkError(t, typ, over+wrongSubs, api.ErrRange)
			checkError(t, typ, over+strings.Repeat("\x80\x00", 20), api.ErrRange)
		}
	}
	checkError(t, 9, "\x01\x20\x80\x00\x02", api.ErrShort)
	checkError(t, 10, "\x01\x20\x00\x00\x00\x00ABCDEFGH"+unknown, api.ErrShort)
	checkError(t, 10, "\x01\x08\x00\x00\x00\x00ABCDEFGHa"+wrongSubs, api.ErrShort)
	checkError(t, 10, "\x01\x08\x00\x00\x00\x00ABCDEFGHa"+unknown+"\x05\xc7"+strings.Repeat("a", 199), api.ErrLong)
	checkNothing(t, 10, "\x01\x08\x00\x00\x00\x00ABCDEFGHa"+unknown)
	checkNothing(t, 10, "\x00\x00\x00\x00\x00\x00ABCDEFGH"+unknown)
}

// Prefix's bytes that aren't all there are told, whatever those that are there
// would be as sub-TLVs.
func TestP21_1GetShortAheadOfSubs(t *testing.T) {
	for _, m := range plain() {
		need := size(m.Ae, m.Plen)
		for _, fill := range []string{"\x00", "\x01\x00", "\x02\x00", "\x80\x00", "\xff"} {
			for n := range need {
				checkError(t, types[m.Kind], spelledAhead(m)+strings.Repeat(fill, 16)[:n], api.ErrShort)
			}
		}
	}
}

// Every cut of a message is that with those sub-TLVs that are all there, or too
// short.
func TestP21_1GetEveryCut(t *testing.T) {
	for _, m := range messages() {
		typ, data := types[m.Kind], spelledData(m)
		places := []int{len(spelledFields(m))}
		for i := range m.Subs {
			places = append(places, len(spelledFields(m))+len(spelledSubs(m.Subs[:i+1])))
		}
		for n := range len(data) + 1 {
			if i, whole := slices.BinarySearch(places, n); whole {
				checkGet(t, typ, data[:n], with(m, "Subs", m.Subs[:i]))
			} else {
				checkError(t, typ, data[:n], api.ErrShort)
			}
		}
	}
}

// Bytes of any kind, of all three types.
func TestP21_1GetMixes(t *testing.T) {
	r := rand.New(rand.NewSource(1))
	for range 20000 {
		b := []byte(someBytes(r, r.Intn(60)))
		for i := range b {
			// Small numbers make sub-TLVs that are all there.
			if r.Intn(3) > 0 {
				b[i] %= 5
			}
		}
		for _, typ := range []int{8, 9, 10} {
			checkTlv(t, typ, string(b))
			if len(b) < ahead[typ] {
				continue
			}
			ae := r.Intn(4)
			plen := lengths[ae][0] + r.Intn(lengths[ae][1]-lengths[ae][0]+1)
			checkTlv(t, typ, fields(typ, ae, plen, r.Intn(size(ae, plen)+2))+string(b[ahead[typ]:]))
		}
	}
}

// Where a TLV stands changes nothing.
func TestP21_1GetPlaces(t *testing.T) {
	for _, at := range []int{0, 1, 4, 65535, -1, math.MaxInt, math.MinInt} {
		for _, m := range messages() {
			got, is, err := Get(api.Tlv{Type: types[m.Kind], At: at, Data: spelledData(m)})
			if !is || err != api.OK || !same(got, m) {
				t.Errorf("at %d %s is %s, %t, error %d", at, sketch(m), sketch(got), is, err)
			}
		}
		for _, u := range updates() {
			got, is, err := Take(api.Tlv{Type: 8, At: at, Data: spelledUpdate(u)})
			if !is || err != api.OK || !sameRaw(got, u) {
				t.Errorf("at %d %s is %s, %t, error %d", at, sketchRaw(u), sketchRaw(got), is, err)
			}
		}
	}
}

// Any type, and data of any size, end without a panic; those that aren't asked
// for say nothing, even where their data would be wrong.
func TestP21_1AnyTlvEnds(t *testing.T) {
	for _, typ := range []int{0, 1, 2, 7, 8, 9, 10, 11, 128, 255, 256, 264, 265, 266, -1, math.MaxInt, math.MinInt} {
		for _, data := range []string{"", "\x00", "\x02", fields(8, 1, 8, 0), fields(9, 1, 8, 0), fields(10, 1, 8, 0) + "a", strings.Repeat("\x00", 1<<16), strings.Repeat("\xff", 1<<16)} {
			m, is, err := Get(api.Tlv{Type: typ, Data: data})
			if typ != 9 && typ != 10 && (is || err != api.OK || !same(m, api.Msg{})) {
				t.Errorf("Get of the type %d, %.99q, = %s, %t, error %d", typ, data, sketch(m), is, err)
			}
			u, is, err := Take(api.Tlv{Type: typ, Data: data})
			if typ != 8 && (is || err != api.OK || !sameRaw(u, api.Raw{})) {
				t.Errorf("Take of the type %d, %.99q, = %s, %t, error %d", typ, data, sketchRaw(u), is, err)
			}
		}
	}
}
