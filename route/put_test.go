package route

import (
	"math"
	"reflect"
	"slices"
	"strings"
	"testing"

	"roadbook/api"
)

func TestP21_1InExamples(t *testing.T) {
	link := head + "\x7f\x80\x00\x00\x00\x00\x00\x00"
	for _, c := range []struct {
		ae   int
		addr string
		plen int
		want bool
	}{
		{0, "", 0, true},
		{0, "", 1, false},
		{0, "\x00\x00\x00\x00", 0, false},
		{1, "\x0a\x01\x02\x00", 24, true},
		{1, "\x0a\x01\x02\x00", 23, true},
		{1, "\x0a\x01\x02\x00", 22, false},
		{1, "\x0a\x01\x02\x03", 32, true},
		{1, "\x0a\x01\x02\x03", 33, false},
		{1, "\x00\x00\x00\x00", 0, true},
		{1, "", 0, false},
		{2, link, 128, true},
		{2, link, 73, true},
		{2, link, 72, false},
		{2, link, 129, false},
		{2, strings.Repeat("\x00", 16), 0, true},
		{3, link, 73, true},
		{3, link, 72, false},
		{3, head + strings.Repeat("\x00", 8), 64, true},
		{3, head + strings.Repeat("\x00", 8), 63, false},
		{3, "\xfe\x80" + strings.Repeat("\x00", 14), 9, false},
		{3, strings.Repeat("\x00", 16), 64, false},
		{4, "", 0, false},
		{-1, "", 0, false},
		{255, "\x0a\x01\x02\x00", 24, false},
	} {
		if got := In(c.ae, c.addr, c.plen); got != c.want {
			t.Errorf("In(%d, %q, %d) = %t", c.ae, c.addr, c.plen, got)
		}
		checkIn(t, c.ae, c.addr, c.plen)
	}
}

// Texts of all sizes, clean and with a bit behind the length, of all lengths, in
// all encodings, those that there aren't among them.
func TestP21_1InEdges(t *testing.T) {
	for _, a := range addresses() {
		for _, plen := range plens {
			for _, v := range []string{a, clean(a, plen), wrongAt(clean(a, plen), plen), wrongAt(clean(a, plen), plen-1), wrongAt(clean(a, plen), 8*len(a)-1)} {
				for ae := -1; ae <= 4; ae++ {
					checkIn(t, ae, v, plen)
				}
				for _, ae := range otherAes {
					checkIn(t, ae, v, plen)
				}
			}
		}
	}
}

// Each bit behind the length counts, and each of the first eight bytes of a
// link-local address.
func TestP21_1InEachBit(t *testing.T) {
	for ae := range 4 {
		for plen := lengths[ae][0]; plen <= lengths[ae][1]; plen++ {
			a := filled(ae, strings.Repeat("\xff", size(ae, plen)), plen)
			checkIn(t, ae, a, plen)
			for bit := range 8 * len(a) {
				checkIn(t, ae, wrongAt(a, bit), plen)
			}
		}
	}
}

func TestP21_1PutExamples(t *testing.T) {
	checkPut(t, api.Msg{Kind: api.RouteReq}, "\x09\x02\x00\x00")
	checkPut(t, api.Msg{Kind: api.RouteReq, Ae: 1, Prefix: "\x0a\x01\x02\x00", Plen: 24}, "\x09\x05\x01\x18\x0a\x01\x02")
	checkPut(t, api.Msg{Kind: api.RouteReq, Ae: 1, Prefix: "\x0a\x01\x02\x00", Plen: 32}, "\x09\x06\x01\x20\x0a\x01\x02\x00")
	checkPut(t, api.Msg{Kind: api.RouteReq, Ae: 1, Prefix: "\x00\x00\x00\x00"}, "\x09\x02\x01\x00")
	checkPut(t, api.Msg{Kind: api.RouteReq, Ae: 2, Prefix: head + "abcdefgh", Plen: 128}, "\x09\x12\x02\x80"+head+"abcdefgh")
	checkPut(t, api.Msg{Kind: api.RouteReq, Ae: 3, Prefix: head + "abcdefgh", Plen: 128}, "\x09\x0a\x03\x80abcdefgh")
	checkPut(t, api.Msg{Kind: api.RouteReq, Ae: 3, Prefix: head + "\x00\x00\x00\x00\x00\x00\x00\x00", Plen: 64}, "\x09\x02\x03\x40")
	m := api.Msg{Kind: api.SeqnoReq, Ae: 1, Prefix: "\x0a\x01\x02\x00", Plen: 23, Seq: 258, Hops: 5, Id: id}
	checkPut(t, m, "\x0a\x11\x01\x17\x01\x02\x05\x00ABCDEFGH\x0a\x01\x02")
	m.Ae, m.Prefix, m.Plen = 3, head+"\x7f\x00\x00\x00\x00\x00\x00\x00", 72
	checkPut(t, m, "\x0a\x0f\x03\x48\x01\x02\x05\x00ABCDEFGH\x7f")
	m.Subs = []api.Sub{{Type: 2, Data: "ab"}, {Type: 127}}
	checkPut(t, m, "\x0a\x15\x03\x48\x01\x02\x05\x00ABCDEFGH\x7f\x02\x02ab\x7f\x00")
}

// All lengths of all encodings, and the few with all lists.
func TestP21_1PutMessages(t *testing.T) {
	for _, m := range slices.Concat(plain(), messages()) {
		checkPut(t, m, spelled(m))
	}
}

// Each number that fits and that doesn't, whatever the prefix is.
func TestP21_1PutSeq(t *testing.T) {
	for _, m := range some() {
		if m.Kind == api.RouteReq {
			continue
		}
		for _, v := range goodNums {
			checkPut(t, with(m, "Seq", v), spelled(with(m, "Seq", v)))
		}
		for _, v := range badNums {
			checkNoPut(t, "Seq", with(m, "Seq", v))
		}
		for bit := range 63 {
			if v := with(m, "Seq", 1<<bit); bit < 16 {
				checkPut(t, v, spelled(v))
			} else {
				checkNoPut(t, "Seq", v)
			}
		}
	}
}

func TestP21_1PutHops(t *testing.T) {
	for _, m := range some() {
		if m.Kind == api.RouteReq {
			continue
		}
		for v := 1; v < 256; v++ {
			checkPut(t, with(m, "Hops", v), spelled(with(m, "Hops", v)))
		}
		for _, v := range badHops {
			checkNoPut(t, "Hops", with(m, "Hops", v))
		}
	}
}

func TestP21_1PutId(t *testing.T) {
	for _, m := range some() {
		if m.Kind == api.RouteReq {
			continue
		}
		for _, v := range []string{strings.Repeat("\x00", 8), strings.Repeat("\xff", 8), head, "éééé"} {
			checkPut(t, with(m, "Id", v), spelled(with(m, "Id", v)))
		}
		for _, v := range badIds {
			checkNoPut(t, "Id", with(m, "Id", v))
		}
		for n := range 40 {
			if v := with(m, "Id", strings.Repeat("a", n)); n == 8 {
				checkPut(t, v, spelled(v))
			} else {
				checkNoPut(t, "Id", v)
			}
		}
	}
}

// A seqno request is for a prefix; a route request may be for all.
func TestP21_1PutEmpty(t *testing.T) {
	for _, subs := range lists() {
		m := api.Msg{Kind: api.RouteReq, Subs: subs}
		checkPut(t, m, "\x09"+string([]byte{byte(2 + len(spelledSubs(subs)))})+"\x00\x00"+spelledSubs(subs))
		checkNoPut(t, "for all", api.Msg{Kind: api.SeqnoReq, Seq: 1, Hops: 1, Id: id, Subs: subs})
	}
}

// The bytes of a request stand at their own places.
func TestP21_1PutEachByte(t *testing.T) {
	m := api.Msg{Kind: api.SeqnoReq, Ae: 2, Prefix: "abcdefghijklmnop", Plen: 128, Seq: 0x0102, Hops: 3, Id: id}
	for v := range 256 {
		checkPut(t, with(m, "Seq", v), "\x0a\x1e\x02\x80\x00"+string([]byte{byte(v)})+"\x03\x00ABCDEFGHabcdefghijklmnop")
		checkPut(t, with(m, "Seq", 256*v), "\x0a\x1e\x02\x80"+string([]byte{byte(v)})+"\x00\x03\x00ABCDEFGHabcdefghijklmnop")
		if v > 0 {
			checkPut(t, with(m, "Hops", v), "\x0a\x1e\x02\x80\x01\x02"+string([]byte{byte(v)})+"\x00ABCDEFGHabcdefghijklmnop")
		}
		for at := range 8 {
			b := []byte(id)
			b[at] = byte(v)
			checkPut(t, with(m, "Id", string(b)), "\x0a\x1e\x02\x80\x01\x02\x03\x00"+string(b)+"abcdefghijklmnop")
		}
		for at := range 16 {
			b := []byte(m.Prefix)
			b[at] = byte(v)
			checkPut(t, with(m, "Prefix", string(b)), "\x0a\x1e\x02\x80\x01\x02\x03\x00ABCDEFGH"+string(b))
			checkPut(t, api.Msg{Kind: api.RouteReq, Ae: 1, Prefix: string(b[at/4*4:][:4]), Plen: 32}, "\x09\x06\x01\x20"+string(b[at/4*4:][:4]))
			checkPut(t, api.Msg{Kind: api.RouteReq, Ae: 3, Prefix: head + string(b[at/8*8:][:8]), Plen: 128}, "\x09\x0a\x03\x80"+string(b[at/8*8:][:8]))
		}
	}
}

// Another Kind is none of this layer, though all fields would do, and though
// its own layer has it.
func TestP21_1PutOtherKinds(t *testing.T) {
	kinds := []int{0, -1, -2, -11, -12, -13, 15, 16, 255, 256, math.MaxInt, math.MinInt}
	for kind := range types {
		kinds = append(kinds, 256+kind, 65536+kind, 1<<32+kind, math.MinInt+kind)
	}
	for kind := api.RipRoute; kind <= api.LastOfKind; kind++ {
		if types[kind] == 0 {
			kinds = append(kinds, kind)
		}
	}
	for _, kind := range kinds {
		for _, m := range messages() {
			checkNoPut(t, "Kind", with(m, "Kind", kind))
		}
		checkNoPut(t, "Kind alone", api.Msg{Kind: kind})
	}
	for _, m := range []api.Msg{
		{},
		{Kind: api.Ihu},
		{Kind: api.Hello, Seq: 1},
		{Kind: api.Opaque, Type: 11, Data: "abc"},
		{Kind: api.Update, Metric: api.Far},
		{Kind: api.Update, Ae: 1, Prefix: "abcd", Plen: 32, Metric: api.Far},
		{Kind: api.NgRoute, Cmd: 2, Prefix: strings.Repeat("\x00", 16), Next: strings.Repeat("\x00", 16), Metric: 1},
	} {
		checkNoPut(t, "another layer's", m)
	}
}

// Both Kinds aren't each other.
func TestP21_1PutKindsOfEachOther(t *testing.T) {
	for _, m := range messages() {
		if m.Kind == api.RouteReq {
			checkNoPut(t, "Kind", with(m, "Kind", api.SeqnoReq))
		} else {
			checkNoPut(t, "Kind", with(m, "Kind", api.RouteReq))
		}
	}
}

// A field that a Kind doesn't have may not be set, to whatever it is; that which
// isn't asked for here is a list that holds nothing.
func TestP21_1PutOtherFields(t *testing.T) {
	for _, m := range messages() {
		others := 0
		for i := range reflect.TypeFor[api.Msg]().NumField() {
			name := reflect.TypeFor[api.Msg]().Field(i).Name
			if slices.Contains(ownFields[m.Kind], name) {
				continue
			}
			others++
			for _, v := range othersOf(t, name) {
				checkNoPut(t, name, with(m, name, v))
			}
		}
		if want := reflect.TypeFor[api.Msg]().NumField() - len(ownFields[m.Kind]); others != want {
			t.Errorf("%d other fields, want %d", others, want)
		}
		checkPut(t, with(m, "List", []api.Dest{}), spelled(m))
	}
}

// othersOf are values of the field of that name that are not 0, or empty.
func othersOf(t *testing.T, name string) []any {
	t.Helper()
	switch f, _ := reflect.TypeFor[api.Msg]().FieldByName(name); f.Type {
	case reflect.TypeFor[int]():
		return []any{1, -1, 2, 3, 4, 255, 256, 65535, 65536, math.MaxInt, math.MinInt}
	case reflect.TypeFor[string]():
		return []any{"\x00", "a", "abcd", id, strings.Repeat("\x00", 16)}
	case reflect.TypeFor[[]api.Dest]():
		return []any{[]api.Dest{{}}, []api.Dest{{Addr: "abcd", Seq: 1}, {}}}
	}
	t.Fatalf("no values for the field %s", name)
	return nil
}

// Subs that may not be leave no bytes at all; 200 bytes of them are the most,
// beside the longest fields too, where a TLV would have room for more.
func TestP21_1PutSubs(t *testing.T) {
	for _, m := range some() {
		for _, subs := range wrongLists() {
			checkNoPut(t, "Subs", with(m, "Subs", subs))
		}
		for n := range 256 {
			if v := with(m, "Subs", []api.Sub{sized(7, n)}); n <= 198 {
				checkPut(t, v, spelled(v))
			} else {
				checkNoPut(t, "Subs", v)
			}
		}
		for typ := -2; typ < 260; typ++ {
			if v := with(m, "Subs", []api.Sub{{Type: 5}, sized(typ, 3)}); typ >= 2 && typ <= 127 {
				checkPut(t, v, spelled(v))
			} else {
				checkNoPut(t, "Subs", v)
			}
		}
	}
	longest := api.Msg{Kind: api.SeqnoReq, Ae: 2, Prefix: strings.Repeat("\xff", 16), Plen: 128, Seq: 65535, Hops: 255, Id: id, Subs: []api.Sub{sized(2, 198)}}
	if s, ok := Put(longest); !ok || len(s) != 232 || s[1] != 230 {
		t.Errorf("the longest TLV is %.99q, %t", s, ok)
	}
}

// One thing alone that may not be is enough, whatever else may be.
func TestP21_1PutSeveralWrong(t *testing.T) {
	wrong := map[string]any{"Seq": 65536, "Hops": 256, "Id": "a", "Plen": 129, "Prefix": "abc", "Ae": 4, "Subs": []api.Sub{{Type: 1}}, "Next": "a"}
	for _, m := range some() {
		for name, v := range wrong {
			checkNoPut(t, name, with(m, name, v))
			for other, w := range wrong {
				checkNoPut(t, name+" "+other, with(with(m, name, v), other, w))
			}
		}
	}
}
