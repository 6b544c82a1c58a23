package ctx

import (
	"math"
	"math/rand"
	"slices"
	"strings"
	"testing"

	"roadbook/api"
)

// TLVs one behind the other, from nothing: what is known behind each may be, and
// so may what is told; checkStep asks for both.
func TestP22_2Walks(t *testing.T) {
	r := rand.New(rand.NewSource(1))
	told, errs := 0, map[api.Errno]int{}
	for range 3000 {
		c := api.Ctx{}
		for range 40 {
			typ, data := someTlv(r)
			checkStep(t, c, typ, data)
			d, l, err := Step(c, api.Tlv{Type: typ, Data: data})
			if !Ok(d) {
				t.Fatalf("the type %d, %.99q, leaves behind it %s", typ, data, sketch(d))
			}
			c = d
			told += len(l)
			errs[err]++
		}
	}
	if told < 10000 || errs[api.OK] < 10000 || errs[api.ErrShort] < 100 || errs[api.ErrRange] < 100 || errs[api.ErrCtx] < 100 || errs[api.ErrLong] < 100 {
		t.Errorf("only %d messages, and the errors %v", told, errs)
	}
}

// Any bytes at all, of each type, from all that may be known.
func TestP22_2AnyBytes(t *testing.T) {
	r := rand.New(rand.NewSource(2))
	for _, c := range contexts() {
		for typ := 6; typ < 9; typ++ {
			for range 400 {
				b := []byte(someBytes(r, r.Intn(48)))
				for i := range b {
					if i < 4 && r.Intn(2) == 0 {
						b[i] = byte(r.Intn(8))
					}
				}
				checkStep(t, c, typ, string(b))
			}
		}
	}
}

// Each bit of TLVs that say something, the other way round.
func TestP22_2EachBit(t *testing.T) {
	check := func(typ int, data string) {
		for bit := range 8 * len(data) {
			for _, c := range few() {
				checkStep(t, c, typ, wrongAt(data, bit))
			}
		}
	}
	check(6, "\x00\x00"+id)
	check(7, "\x01\x00"+ipv4Addr)
	check(7, "\x02\x00"+ipv6Addr)
	check(7, "\x03\x00"+linkAddr[8:])
	for _, u := range updates() {
		check(8, spelled(u))
	}
}

// An Update that says its prefix whole and one that leaves out what the one
// ahead of it said tell the same.
func TestP22_2LeftOutAlike(t *testing.T) {
	for ae := 1; ae < 4; ae++ {
		for plen := lengths[ae][0]; plen <= lengths[ae][1]; plen++ {
			u := api.Raw{Ae: ae, Flags: 128, Plen: plen, Metric: 7, Bytes: strings.Repeat("\xa7", size(ae, plen))}
			c, whole, _ := Step(api.Ctx{Id: id}, api.Tlv{Type: 8, Data: spelled(u)})
			for omitted := range size(ae, plen) + 1 {
				v := u
				v.Omitted, v.Bytes = omitted, u.Bytes[omitted:]
				d, l, err := Step(c, api.Tlv{Type: 8, Data: spelled(v)})
				if err != api.OK || d != c || len(l) != 1 || len(whole) != 1 || !same(l[0], whole[0]) {
					t.Errorf("%s, without %d bytes, tells %s, error %d; want %s", sketch(u), omitted, sketch(l), err, sketch(whole))
				}
			}
		}
	}
}

// What is handed in stays as it was, spare room too; what is known ahead of a
// step can be stepped from again.
func TestP22_2KeepsNothing(t *testing.T) {
	for _, c := range contexts() {
		for _, u := range []api.Raw{
			{Ae: 1, Flags: 192, Plen: 24, Metric: 1, Bytes: "abc", Subs: []api.Sub{{Type: 2, Data: "a"}}},
			{Ae: 2, Flags: 192, Plen: 24, Omitted: 1, Metric: 1, Bytes: "bc"},
			{Ae: 3, Flags: 192, Plen: 80, Metric: 65535, Bytes: "ab"},
		} {
			before, data := c, spelled(u)
			v := api.Tlv{Type: 8, At: 9, Data: strings.Clone(data)}
			Ok(c)
			Step(c, v)
			if c != before || v != (api.Tlv{Type: 8, At: 9, Data: data}) {
				t.Errorf("%s, or the TLV of %s, were changed", sketch(before), sketch(u))
			}
			checkStep(t, c, 8, data)
			checkStep(t, c, 6, "\x00\x00"+id)
			checkStep(t, c, 8, data)
		}
	}
	for _, m := range plain() {
		for _, l := range slices.Concat(lists(), wrongLists()) {
			room := make([]api.Sub, len(l)+3)
			for i := range room {
				room[i] = api.Sub{Type: 1000 + i, Data: "spare"}
			}
			copy(room, l)
			before := slices.Clone(room)
			Right(with(m, "Subs", room[:len(l)]))
			if !slices.Equal(room, before) {
				t.Errorf("the Subs of %s, or their spare room, were changed", sketch(m))
			}
		}
	}
}

// What is answered is new, and hangs on nothing that was asked ahead.
func TestP22_2Again(t *testing.T) {
	data := "\x01\xc0\x18\x02" + numbers + "\x07\x02\x01a\x03\x00"
	want := stepped(all, 8, data)
	for range 3 {
		_, one, _ := Step(all, api.Tlv{Type: 8, Data: data})
		_, two, _ := Step(all, api.Tlv{Type: 8, Data: data})
		if len(one) != 1 || len(one[0].Subs) != 2 {
			t.Fatalf("%.99q tells %s", data, sketch(one))
		}
		one[0].Subs[0] = api.Sub{Type: -1}
		one[0].Prefix, one[0].Subs = "x", append(one[0].Subs, api.Sub{Type: -2})
		if one = append(one[:0], api.Msg{}); !slices.EqualFunc(two, want.told, same) {
			t.Errorf("Step shares a list with another answer: %s", sketch(two))
		}
		checkError(t, all, 8, data+"\x02", api.ErrShort)
		checkError(t, api.Ctx{}, 8, data, api.ErrCtx)
		checkAnswer(t, all, 8, data, want)
	}
}

// All calls end, whatever they are asked for, also where nothing is promised.
func TestP22_2Ends(t *testing.T) {
	for _, a := range addresses() {
		c := api.Ctx{Prefix: [4]string{a, a, a, a}, Next: [2]string{a, a}, Id: a}
		for typ := -1; typ < 12; typ++ {
			for ae := range 5 {
				data := string([]byte{byte(ae), 192, byte(lengths[ae][1]), byte(size(ae, lengths[ae][1]))}) + numbers
				Step(c, api.Tlv{Type: typ, Data: data})
				Step(c, api.Tlv{Type: typ, Data: data + ipv6Addr})
			}
		}
	}
	for _, typ := range []int{-1, 0, 1, 2, 5, 9, 10, 11, 255, 256 + 6, 1<<32 + 7, -248, math.MaxInt, math.MinInt} {
		if got, l, err := Step(all, api.Tlv{Type: typ, Data: "\x01\x00" + id}); got != all || len(l) > 0 || err != api.OK {
			t.Errorf("the type %d has %s, %s, error %d", typ, sketch(got), sketch(l), err)
		}
	}
}
