package field

import (
	"fmt"
	"math/rand"
	"slices"
	"strings"
	"testing"

	"roadbook/api"
)

// checkBack holds m, which may be, to come back of its bytes.
func checkBack(t *testing.T, m api.Msg) {
	t.Helper()
	s, ok := Put(m)
	if !ok || len(s) < 4 {
		t.Errorf("%s has the bytes %.99q, %t", sketch(m), s, ok)
		return
	}
	back, is, err := Get(api.Tlv{Type: int(s[0]), Data: s[2:]})
	if int(s[1]) != len(s)-2 || !is || err != api.OK || !same(back, m) {
		t.Errorf("%s comes back of %.99q as %s, %t, error %d", sketch(m), s, sketch(back), is, err)
	}
}

func TestP20_2MessagesComeBack(t *testing.T) {
	for _, m := range messages() {
		checkBack(t, m)
	}
	r := rand.New(rand.NewSource(2))
	for range 30000 {
		checkBack(t, someMessage(r))
	}
}

// Bytes that have nothing that is left out, where each byte without a name is 0,
// come back byte for byte; others come back as bytes that are read as the same.
func TestP20_2BytesComeBack(t *testing.T) {
	r := rand.New(rand.NewSource(3))
	for range 20000 {
		m := someMessage(r)
		b := []byte(spelledData(m))
		back, _, _ := Get(api.Tlv{Type: types[m.Kind], Data: string(b)})
		if s, ok := Put(back); !ok || s != spelled(m) {
			t.Errorf("%.99q comes back as %.99q, %t", b, s, ok)
		}
		b[r.Intn(len(b))] = byte(r.Intn(256))
		for _, typ := range kinds {
			checkTlv(t, typ, string(b))
			checkTlv(t, typ, string(b)+"\x00")
			checkTlv(t, typ, string(b[:r.Intn(len(b))]))
		}
	}
}

// A message that differs in one field alone, or in its Kind, has other bytes.
func TestP20_2EachItsOwn(t *testing.T) {
	seen := map[string]api.Msg{}
	note := func(m api.Msg) {
		if !Right(m) {
			return
		}
		s, ok := Put(m)
		if other, is := seen[s]; is && !same(other, m) || !ok {
			t.Errorf("%s and %s both have the bytes %.99q, %t", sketch(other), sketch(m), s, ok)
		}
		seen[s] = m
	}
	for _, m := range messages() {
		note(m)
		for _, name := range append(numbers, "Flags", "Ae") {
			for _, v := range goodNums {
				note(with(m, name, v))
			}
		}
		for _, all := range addresses {
			for _, a := range all {
				for ae := range addresses {
					note(with(with(m, "Addr", a), "Ae", ae))
				}
			}
		}
	}
	if len(seen) < 1000 {
		t.Errorf("only %d messages", len(seen))
	}
}

// Padding behind the fields changes no message, and isn't written.
func TestP20_2PaddingChangesNothing(t *testing.T) {
	for _, m := range messages() {
		for _, pad := range []string{"\x00", "\x01\x00", "\x01\x02\x80\x00", "\x00\x01\x01\x02\x00"} {
			data := spelledFields(m) + pad
			for _, s := range m.Subs {
				data += spelledSubs([]api.Sub{s}) + pad
			}
			checkGet(t, types[m.Kind], data, m)
		}
	}
}

// What is handed in stays as it was, its spare room too.
func TestP20_2KeepsNothing(t *testing.T) {
	var all []api.Msg
	for _, m := range plain() {
		for _, subs := range slices.Concat(lists(), wrongLists()) {
			all = append(all, with(m, "Subs", subs))
		}
	}
	for _, m := range all {
		room := make([]api.Sub, len(m.Subs)+4)
		for i := range room {
			room[i] = api.Sub{Type: 1000 + i, Data: "spare"}
		}
		copy(room, m.Subs)
		before := slices.Clone(room)
		for _, in := range [][]api.Sub{room[:len(m.Subs)], room[:len(m.Subs):len(m.Subs)]} {
			v := with(m, "Subs", in)
			Right(v)
			Put(v)
			if !same(v, m) {
				t.Errorf("%s was changed to %s", sketch(m), sketch(v))
			}
		}
		if !slices.Equal(room, before) {
			t.Errorf("the Subs of %s, or their spare room, were changed", sketch(m))
		}
	}
	for _, m := range messages() {
		data := spelledData(m)
		v := api.Tlv{Type: types[m.Kind], At: 9, Data: strings.Clone(data)}
		if Get(v); v != (api.Tlv{Type: types[m.Kind], At: 9, Data: data}) {
			t.Errorf("the TLV of %s was changed", sketch(m))
		}
	}
}

// What is answered is new, and hangs on nothing that was asked ahead.
func TestP20_2Again(t *testing.T) {
	for _, head := range plain() {
		want := with(head, "Subs", []api.Sub{{Type: 2, Data: "abcd"}, {Type: 127}})
		typ, data := types[want.Kind], spelledData(want)
		for i := range 3 {
			one, _, _ := Get(api.Tlv{Type: typ, Data: data})
			two, _, _ := Get(api.Tlv{Type: typ, Data: data})
			if len(one.Subs) != 2 {
				t.Fatalf("%s has %s", sketch(want), fmt.Sprint(one.Subs))
			}
			one.Subs[0], one.Subs[1] = api.Sub{Type: 9, Data: "x"}, api.Sub{Type: -1}
			if one.Subs = append(one.Subs, api.Sub{Type: -2}); !same(two, want) {
				t.Errorf("Get shares a list with another answer: %s", sketch(two))
			}
			checkNoPut(t, "changed", one)
			checkPut(t, want, spelled(want))
			checkError(t, typ, data[:len(data)-1], api.ErrShort)
			checkNothing(t, typ, data+"\x80\x00")
			checkNothing(t, 5, "\x04\x00\x00\x00\x00\x00")
			checkGet(t, typ, data, want)
			checkPut(t, least()[i], spelled(least()[i]))
		}
	}
}
