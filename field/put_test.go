package field

import (
	"math"
	"reflect"
	"slices"
	"strings"
	"testing"

	"roadbook/api"
)

func TestP20_1PutExamples(t *testing.T) {
	checkPut(t, api.Msg{Kind: api.Hello, Flags: 1, Seq: 1, Interval: 100}, "\x04\x06\x80\x00\x00\x01\x00\x64")
	checkPut(t, api.Msg{Kind: api.Hello, Seq: 1, Interval: 100}, "\x04\x06\x00\x00\x00\x01\x00\x64")
	checkPut(t, api.Msg{Kind: api.AckReq, Nonce: 7, Interval: 258}, "\x02\x06\x00\x00\x00\x07\x01\x02")
	checkPut(t, api.Msg{Kind: api.Ack, Nonce: 7}, "\x03\x02\x00\x07")
	checkPut(t, api.Msg{Kind: api.Ack, Nonce: 7, Subs: []api.Sub{{Type: 2, Data: "ab"}, {Type: 3}}}, "\x03\x08\x00\x07\x02\x02ab\x03\x00")
	m := api.Msg{Kind: api.Ihu, Cost: 256, Interval: 5}
	checkPut(t, m, "\x05\x06\x00\x00\x01\x00\x00\x05")
	m.Ae, m.Addr = 1, "\x0a\x01\x02\x03"
	checkPut(t, m, "\x05\x0a\x01\x00\x01\x00\x00\x05\x0a\x01\x02\x03")
	m.Ae, m.Addr = 2, "abcdefghijklmnop"
	checkPut(t, m, "\x05\x16\x02\x00\x01\x00\x00\x05abcdefghijklmnop")
	m.Ae, m.Addr = 3, link
	checkPut(t, m, "\x05\x0e\x03\x00\x01\x00\x00\x05abcdefgh")
	m.Subs = []api.Sub{{Type: 127, Data: "\x00"}}
	checkPut(t, m, "\x05\x11\x03\x00\x01\x00\x00\x05abcdefgh\x7f\x01\x00")
}

func TestP20_1PutMessages(t *testing.T) {
	for _, m := range messages() {
		checkPut(t, m, spelled(m))
	}
}

// Each number that fits and that doesn't, in each field that has one, whatever
// the others are.
func TestP20_1PutNumbers(t *testing.T) {
	for _, m := range slices.Concat(plain(), least(), greatest()) {
		for _, name := range numbers {
			own := slices.Contains(ownFields[m.Kind], name)
			for _, v := range []int{0, 1, 255, 256, 65535} {
				if own {
					checkPut(t, with(m, name, v), spelled(with(m, name, v)))
				}
			}
			for _, v := range []int{-1, 65536} {
				checkNoPut(t, name, with(m, name, v))
			}
			for _, v := range goodNums {
				if own {
					checkPut(t, with(m, name, v), spelled(with(m, name, v)))
				}
			}
			for _, v := range badNums {
				checkNoPut(t, name, with(m, name, v))
			}
		}
	}
}

// A bit beyond the sixteen makes a number wrong, though those within would do.
func TestP20_1PutBitsBeyond(t *testing.T) {
	for _, m := range plain() {
		for _, name := range numbers {
			if !slices.Contains(ownFields[m.Kind], name) {
				continue
			}
			for bit := range 64 {
				for _, low := range goodNums {
					if v := with(m, name, low|1<<bit); bit < 16 {
						checkPut(t, v, spelled(v))
					} else {
						checkNoPut(t, name, v)
					}
				}
			}
		}
	}
}

func TestP20_1PutFlags(t *testing.T) {
	for _, m := range []api.Msg{plain()[2], least()[2], greatest()[2]} {
		for _, subs := range lists() {
			m.Subs = subs
			checkPut(t, with(m, "Flags", 0), spelled(with(m, "Flags", 0)))
			checkPut(t, with(m, "Flags", 1), spelled(with(m, "Flags", 1)))
			for _, v := range wrongFlags {
				checkNoPut(t, "Flags", with(m, "Flags", v))
			}
		}
	}
}

func TestP20_1PutAddresses(t *testing.T) {
	for ae, all := range addresses {
		for _, a := range all {
			for _, n := range goodNums {
				m := api.Msg{Kind: api.Ihu, Ae: ae, Cost: n, Interval: 65535 - n, Addr: a}
				checkPut(t, m, spelled(m))
			}
		}
	}
}

// Addresses of all sizes, link-local ones and others, in each encoding, those
// that there aren't among them.
func TestP20_1PutAddressSizes(t *testing.T) {
	sizes := []int{0, 1, 2, 3, 4, 5, 6, 7, 8, 9, 12, 14, 15, 16, 17, 20, 24, 32, 255, 256, 260, 272, 65536, 65540, 65552}
	fits := map[int]int{0: 0, 1: 4, 2: 16}
	for _, fill := range []string{"\x00", "a", "\xff", "é", link, link[:8] + link[:8], link[:1] + "\x81" + link[2:], link[:7] + "\x01" + link[8:]} {
		for _, size := range sizes {
			a := strings.Repeat(fill, size/len(fill)+1)[:size]
			for ae := -1; ae <= 5; ae++ {
				m := api.Msg{Kind: api.Ihu, Ae: ae, Cost: 1, Interval: 2, Addr: a}
				want, is := fits[ae]
				if is && size == want || ae == 3 && size == 16 && a[:8] == link[:8] {
					checkPut(t, m, spelled(m))
				} else {
					checkNoPut(t, "Addr", m)
				}
			}
			for _, ae := range wrongAes {
				checkNoPut(t, "Ae", api.Msg{Kind: api.Ihu, Ae: ae, Cost: 1, Interval: 2, Addr: a})
			}
		}
	}
}

// Each bit of the first eight bytes of a link-local address counts, none of the
// others.
func TestP20_1PutLinkBits(t *testing.T) {
	for bit := range 128 {
		b := []byte(link)
		b[bit/8] ^= 0x80 >> (bit % 8)
		m := api.Msg{Kind: api.Ihu, Ae: 3, Addr: string(b)}
		if bit < 64 {
			checkNoPut(t, "Addr", m)
		} else {
			checkPut(t, m, spelled(m))
		}
		m.Ae = 2
		checkPut(t, m, spelled(m))
	}
}

// The fields of each message stand at their own places: what each byte of them
// is, is in one field alone.
func TestP20_1PutEachByte(t *testing.T) {
	for v := range 256 {
		for _, n := range []int{v, 256 * v, 257 * v} {
			checkPut(t, api.Msg{Kind: api.AckReq, Nonce: n, Interval: 0x0102}, "\x02\x06\x00\x00"+spelledNum(n)+"\x01\x02")
			checkPut(t, api.Msg{Kind: api.AckReq, Nonce: 0x0102, Interval: n}, "\x02\x06\x00\x00\x01\x02"+spelledNum(n))
			checkPut(t, api.Msg{Kind: api.Ack, Nonce: n}, "\x03\x02"+spelledNum(n))
			checkPut(t, api.Msg{Kind: api.Hello, Flags: v % 2, Seq: n, Interval: 0x0102}, "\x04\x06"+[]string{"\x00", "\x80"}[v%2]+"\x00"+spelledNum(n)+"\x01\x02")
			checkPut(t, api.Msg{Kind: api.Hello, Flags: v % 2, Seq: 0x0102, Interval: n}, "\x04\x06"+[]string{"\x00", "\x80"}[v%2]+"\x00\x01\x02"+spelledNum(n))
			checkPut(t, api.Msg{Kind: api.Ihu, Ae: 1, Cost: n, Interval: 0x0102, Addr: "abcd"}, "\x05\x0a\x01\x00"+spelledNum(n)+"\x01\x02abcd")
			checkPut(t, api.Msg{Kind: api.Ihu, Ae: 1, Cost: 0x0102, Interval: n, Addr: "abcd"}, "\x05\x0a\x01\x00\x01\x02"+spelledNum(n)+"abcd")
		}
		for at := range 16 {
			b := []byte("abcdefghijklmnop")
			b[at] = byte(v)
			checkPut(t, api.Msg{Kind: api.Ihu, Ae: 2, Addr: string(b)}, "\x05\x16\x02\x00\x00\x00\x00\x00"+string(b))
			checkPut(t, api.Msg{Kind: api.Ihu, Ae: 1, Addr: string(b[at/4*4:][:4])}, "\x05\x0a\x01\x00\x00\x00\x00\x00"+string(b[at/4*4:][:4]))
			checkPut(t, api.Msg{Kind: api.Ihu, Ae: 3, Addr: link[:8] + string(b[at/8*8:][:8])}, "\x05\x0e\x03\x00\x00\x00\x00\x00"+string(b[at/8*8:][:8]))
		}
	}
}

// Another Kind is none of this layer, though all fields would do, and though
// its own layer has it.
func TestP20_1PutOtherKinds(t *testing.T) {
	kinds := []int{0, -1, -2, -7, -8, -9, -10, 15, 16, 255, 256, math.MaxInt, math.MinInt}
	for kind := range types {
		kinds = append(kinds, 256+kind, 65536+kind, 1<<32+kind, math.MinInt+kind)
	}
	for kind := api.RipRoute; kind <= api.LastOfKind; kind++ {
		if types[kind] == 0 {
			kinds = append(kinds, kind)
		}
	}
	for _, kind := range kinds {
		for _, m := range messages() {
			checkNoPut(t, "Kind", with(m, "Kind", kind))
		}
		checkNoPut(t, "Kind alone", api.Msg{Kind: kind})
	}
	for _, m := range []api.Msg{
		{},
		{Kind: api.RouteReq},
		{Kind: api.RrepAck},
		{Kind: api.Opaque, Type: 11, Data: "abc"},
		{Kind: api.Update, Metric: api.Far},
		{Kind: api.SeqnoReq, Ae: 1, Prefix: "abcd", Plen: 32, Hops: 1, Id: short},
	} {
		checkNoPut(t, "another layer's", m)
	}
}

// The four Kinds aren't each other: one that has another one's fields isn't
// bare, unless all of these are 0.
func TestP20_1PutKindsOfEachOther(t *testing.T) {
	for _, m := range slices.Concat(plain(), greatest()) {
		for kind := range types {
			v := with(m, "Kind", kind)
			if kind == m.Kind || m.Kind == api.Ack && kind == api.AckReq {
				checkPut(t, v, spelled(v))
			} else {
				checkNoPut(t, "Kind", v)
			}
		}
	}
}

// A field that a Kind doesn't have may not be set, to whatever it is; that which
// isn't asked for here is a list that holds nothing.
func TestP20_1PutOtherFields(t *testing.T) {
	for _, m := range messages() {
		others := 0
		for i := range reflect.TypeFor[api.Msg]().NumField() {
			name := reflect.TypeFor[api.Msg]().Field(i).Name
			if slices.Contains(ownFields[m.Kind], name) {
				continue
			}
			others++
			for _, v := range othersOf(t, name) {
				checkNoPut(t, name, with(m, name, v))
			}
		}
		if want := reflect.TypeFor[api.Msg]().NumField() - len(ownFields[m.Kind]); others != want {
			t.Errorf("%d other fields, want %d", others, want)
		}
		checkPut(t, with(m, "List", []api.Dest{}), spelled(m))
	}
}

// othersOf are values of the field of that name that are not 0, or empty.
func othersOf(t *testing.T, name string) []any {
	t.Helper()
	switch f, _ := reflect.TypeFor[api.Msg]().FieldByName(name); f.Type {
	case reflect.TypeFor[int]():
		return []any{1, -1, 2, 3, 4, 255, 256, 65535, 65536, math.MaxInt, math.MinInt}
	case reflect.TypeFor[string]():
		return []any{"\x00", "a", "abcd", strings.Repeat("\x00", 16), link}
	case reflect.TypeFor[[]api.Dest]():
		return []any{[]api.Dest{{}}, []api.Dest{{Addr: "abcd", Seq: 1}, {}}}
	}
	t.Fatalf("no values for the field %s", name)
	return nil
}

// Subs that may not be leave no bytes at all; 200 bytes of them are the most,
// beside the longest fields too, where a TLV would have room for more.
func TestP20_1PutSubs(t *testing.T) {
	for _, m := range slices.Concat(plain(), least(), greatest()) {
		for _, subs := range wrongLists() {
			checkNoPut(t, "Subs", with(m, "Subs", subs))
		}
		for size := range 256 {
			v := with(m, "Subs", []api.Sub{sized(7, size)})
			if size <= 198 {
				checkPut(t, v, spelled(v))
			} else {
				checkNoPut(t, "Subs", v)
			}
		}
		for typ := -2; typ < 260; typ++ {
			v := with(m, "Subs", []api.Sub{{Type: 5}, sized(typ, 3)})
			if typ >= 2 && typ <= 127 {
				checkPut(t, v, spelled(v))
			} else {
				checkNoPut(t, "Subs", v)
			}
		}
	}
}

// One thing alone that may not be is enough, whatever else may be.
func TestP20_1PutSeveralWrong(t *testing.T) {
	wrong := map[string]any{"Interval": 65536, "Subs": []api.Sub{{Type: 1}}, "Id": "a"}
	for _, m := range plain() {
		for name, v := range wrong {
			checkNoPut(t, name, with(m, name, v))
			for other, w := range wrong {
				checkNoPut(t, name+" "+other, with(with(m, name, v), other, w))
			}
		}
	}
}
