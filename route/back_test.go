package route

import (
	"fmt"
	"math/rand"
	"slices"
	"strings"
	"testing"

	"roadbook/api"
)

// checkBack holds m, which may be, to come back of its bytes.
func checkBack(t *testing.T, m api.Msg) {
	t.Helper()
	s, ok := Put(m)
	if !ok || len(s) < 4 {
		t.Errorf("%s has the bytes %.99q, %t", sketch(m), s, ok)
		return
	}
	back, is, err := Get(api.Tlv{Type: int(s[0]), Data: s[2:]})
	if int(s[1]) != len(s)-2 || !is || err != api.OK || !same(back, m) {
		t.Errorf("%s comes back of %.99q as %s, %t, error %d", sketch(m), s, sketch(back), is, err)
	}
}

func TestP21_3MessagesComeBack(t *testing.T) {
	for _, m := range slices.Concat(plain(), messages()) {
		checkBack(t, m)
	}
	r := rand.New(rand.NewSource(2))
	for range 30000 {
		checkBack(t, someMessage(r))
	}
}

// Bytes that say nothing that is left out come back byte for byte; others come
// back as bytes that are read as the same.
func TestP21_3BytesComeBack(t *testing.T) {
	r := rand.New(rand.NewSource(3))
	for range 20000 {
		m := someMessage(r)
		b := []byte(spelledData(m))
		back, _, _ := Get(api.Tlv{Type: types[m.Kind], Data: string(b)})
		if s, ok := Put(back); !ok || s != spelled(m) {
			t.Errorf("%.99q comes back as %.99q, %t", b, s, ok)
		}
		b[r.Intn(len(b))] = byte(r.Intn(256))
		for _, typ := range []int{8, 9, 10} {
			checkTlv(t, typ, string(b))
			checkTlv(t, typ, string(b)+"\x00")
			checkTlv(t, typ, string(b[:r.Intn(len(b))]))
		}
	}
}

// An Update as it stands has all that its bytes say: they come back of it.
func TestP21_3UpdatesComeBack(t *testing.T) {
	for _, u := range updates() {
		got, _, _ := Take(api.Tlv{Type: 8, Data: spelledUpdate(u)})
		if s := spelledUpdate(got); s != spelledUpdate(u) {
			t.Errorf("%.99q comes back as %.99q", spelledUpdate(u), s)
		}
	}
	r := rand.New(rand.NewSource(4))
	for range 30000 {
		b := []byte(someUpdate(r))
		got, is, err := Take(api.Tlv{Type: 8, Data: string(b)})
		if s := spelledUpdate(got); !is || err != api.OK || got.Have != 1 || s != string(b) {
			t.Errorf("%.99q comes back as %.99q, %t, error %d", b, s, is, err)
		}
		b[r.Intn(len(b))] = byte(r.Intn(256))
		checkTlv(t, 8, string(b))
		checkTlv(t, 8, string(b[:r.Intn(len(b))]))
	}
}

// What a request's prefix is, is what an Update's of the same bytes is: these
// fill up to it.
func TestP21_3PrefixesStandAlike(t *testing.T) {
	for _, m := range plain() {
		s, _ := Put(m)
		bytes := s[2+len(spelledAhead(m)):]
		u, is, err := Take(api.Tlv{Type: 8, Data: fields(8, m.Ae, m.Plen, 0) + bytes})
		if !is || err != api.OK || filled(m.Ae, u.Bytes, m.Plen) != m.Prefix || !In(u.Ae, m.Prefix, u.Plen) {
			t.Errorf("the prefix of %s stands as %s, %t, error %d", sketch(m), sketchRaw(u), is, err)
		}
	}
}

// A message that differs in one field alone, or in its Kind, has other bytes.
func TestP21_3EachItsOwn(t *testing.T) {
	seen := map[string]api.Msg{}
	note := func(m api.Msg) {
		if !Right(m) {
			return
		}
		s, ok := Put(m)
		if other, is := seen[s]; is && !same(other, m) || !ok {
			t.Errorf("%s and %s both have the bytes %.99q, %t", sketch(other), sketch(m), s, ok)
		}
		seen[s] = m
	}
	for _, m := range slices.Concat(plain(), messages()) {
		note(m)
		for _, v := range goodNums {
			note(with(m, "Seq", v))
			note(with(m, "Hops", v))
			note(with(m, "Ae", v))
			note(with(m, "Plen", v))
		}
		for bit := range 8 * len(m.Prefix) {
			note(with(m, "Prefix", wrongAt(m.Prefix, bit)))
		}
		for bit := range 8 * len(m.Id) {
			note(with(m, "Id", wrongAt(m.Id, bit)))
		}
	}
	if len(seen) < 10000 {
		t.Errorf("only %d messages", len(seen))
	}
}

// Padding behind the prefix's bytes changes nothing, and isn't written.
func TestP21_3PaddingChangesNothing(t *testing.T) {
	for _, pad := range []string{"\x00", "\x01\x00", "\x01\x02\x80\x00", "\x00\x01\x01\x02\x00"} {
		padded := func(s string, subs []api.Sub) string {
			s += pad
			for _, sub := range subs {
				s += spelledSubs([]api.Sub{sub}) + pad
			}
			return s
		}
		for _, m := range messages() {
			checkGet(t, types[m.Kind], padded(spelledFields(m), m.Subs), m)
		}
		for _, u := range updates() {
			checkTake(t, padded(spelledUpdate(with(u, "Subs", []api.Sub{})), u.Subs), u)
		}
	}
}

// What is handed in stays as it was, its spare room too.
func TestP21_3KeepsNothing(t *testing.T) {
	var all []api.Msg
	for _, m := range some() {
		for _, subs := range slices.Concat(lists(), wrongLists()) {
			all = append(all, with(m, "Subs", subs))
		}
	}
	for _, m := range all {
		room := make([]api.Sub, len(m.Subs)+4)
		for i := range room {
			room[i] = api.Sub{Type: 1000 + i, Data: "spare"}
		}
		copy(room, m.Subs)
		before := slices.Clone(room)
		for _, in := range [][]api.Sub{room[:len(m.Subs)], room[:len(m.Subs):len(m.Subs)]} {
			v := with(m, "Subs", in)
			Right(v)
			Put(v)
			if !same(v, m) {
				t.Errorf("%s was changed to %s", sketch(m), sketch(v))
			}
		}
		if !slices.Equal(room, before) {
			t.Errorf("the Subs of %s, or their spare room, were changed", sketch(m))
		}
	}
	for _, m := range messages() {
		data := spelledData(m)
		v := api.Tlv{Type: types[m.Kind], At: 9, Data: strings.Clone(data)}
		if Get(v); v != (api.Tlv{Type: types[m.Kind], At: 9, Data: data}) {
			t.Errorf("the TLV of %s was changed", sketch(m))
		}
	}
	for _, u := range updates() {
		data := spelledUpdate(u)
		v := api.Tlv{Type: 8, At: 9, Data: strings.Clone(data)}
		if Take(v); v != (api.Tlv{Type: 8, At: 9, Data: data}) {
			t.Errorf("the TLV of %s was changed", sketchRaw(u))
		}
	}
}

// What is answered is new, and hangs on nothing that was asked ahead.
func TestP21_3Again(t *testing.T) {
	for _, m := range some() {
		want := with(m, "Subs", []api.Sub{{Type: 2, Data: "abcd"}, {Type: 127}})
		typ, data := types[want.Kind], spelledData(want)
		for range 3 {
			one, _, _ := Get(api.Tlv{Type: typ, Data: data})
			two, _, _ := Get(api.Tlv{Type: typ, Data: data})
			if len(one.Subs) != 2 {
				t.Fatalf("%s has %s", sketch(want), fmt.Sprint(one.Subs))
			}
			one.Subs[0], one.Subs[1] = api.Sub{Type: 9, Data: "x"}, api.Sub{Type: -1}
			if one.Subs = append(one.Subs, api.Sub{Type: -2}); !same(two, want) {
				t.Errorf("Get shares a list with another answer: %s", sketch(two))
			}
			checkNoPut(t, "changed", one)
			checkPut(t, want, spelled(want))
			checkError(t, typ, data[:len(data)-1], api.ErrShort)
			checkNothing(t, typ, data+"\x80\x00")
			checkNothing(t, 8, fields(8, 4, 0, 0))
			checkError(t, 8, fields(8, 1, 33, 0), api.ErrRange)
			checkGet(t, typ, data, want)
		}
	}
	data := fields(8, 1, 8, 0) + "a\x02\x01b"
	one, _, _ := Take(api.Tlv{Type: 8, Data: data})
	two, _, _ := Take(api.Tlv{Type: 8, Data: data})
	one.Subs = append(one.Subs[:0], api.Sub{Type: -1})
	if !slices.Equal(two.Subs, []api.Sub{{Type: 2, Data: "b"}}) {
		t.Errorf("Take shares a list with another answer: %s", sketchRaw(two))
	}
}
