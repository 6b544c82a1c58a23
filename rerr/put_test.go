package rerr

import (
	"math"
	"reflect"
	"slices"
	"strings"
	"testing"

	"roadbook/api"
)

// ownFields are the fields of an error, and its Kind.
var ownFields = strings.Fields("Kind Flags List Subs")

func TestP16_1Example(t *testing.T) {
	one := api.Msg{Kind: api.Rerr, List: []api.Dest{{Addr: "abcd", Seq: 8}}}
	const b = "\x03\x00\x00\x01abcd\x00\x00\x00\x08"
	if len(b) != 12 {
		t.Errorf("one destination: %d bytes", len(b))
	}
	checkPut(t, one, b)
	checkPut(t, with(one, "Flags", 1), "\x03\x80"+b[2:])
	one.Subs = []api.Sub{{Type: 7, Data: "x"}, {Type: 2}}
	checkPut(t, one, b+"\x07\x01x\x02\x00")
	two := api.Msg{Kind: api.Rerr, Flags: 1, List: []api.Dest{{Addr: "abcd", Seq: 8}, {Addr: "efgh", Seq: 9}}}
	checkPut(t, two, "\x03\x80\x00\x02abcd\x00\x00\x00\x08efgh\x00\x00\x00\x09")
	checkPut(t, plain(), "\x03\x80\x00\x03\x0a\x01\x02\x03\xa1\xa2\xa3\xa4\xc0\xa8\x00\x09\xf1\xf2\xf3\xf4\x0a\x01\x02\x04\x00\x00\x00\x07")
	checkPut(t, least(), "\x03\x00\x00\x01"+strings.Repeat("\x00", 8))
	checkPut(t, greatest(), "\x03\x80\x00\xff"+strings.Repeat("\xff", 8*255))
}

func TestP16_1Messages(t *testing.T) {
	for _, m := range messages() {
		checkPut(t, m, spelled(m))
	}
}

func TestP16_1Flags(t *testing.T) {
	for _, m := range messages() {
		for flags := range 2 {
			v := with(m, "Flags", flags)
			checkPut(t, v, spelled(v))
		}
		for _, flags := range slices.Concat(wrongFlags, ends) {
			checkNoPut(t, "Flags", with(m, "Flags", flags))
		}
	}
	for bit := 1; bit < 64; bit++ {
		checkNoPut(t, "Flags", with(plain(), "Flags", 1<<bit))
		checkNoPut(t, "Flags", with(plain(), "Flags", 1<<bit|1))
	}
}

// Every number of destinations, and every one that would be told by the same
// byte as one that may be.
func TestP16_1HowManyDests(t *testing.T) {
	for _, subs := range [][]api.Sub{nil, {sized(1, 4), {Type: 2}}} {
		for n := 1; n <= 255; n++ {
			m := api.Msg{Kind: api.Rerr, Flags: n % 2, List: dests(n), Subs: subs}
			checkPut(t, m, spelled(m))
		}
		for _, n := range []int{0, 256, 257, 258, 511, 512, 513, 1000, 65536, 65537} {
			checkNoPut(t, "List", api.Msg{Kind: api.Rerr, Flags: n % 2, List: dests(n), Subs: subs})
		}
		checkNoPut(t, "no List", api.Msg{Kind: api.Rerr, Flags: 1, Subs: subs})
	}
	checkNoPut(t, "an empty List", with(plain(), "List", []api.Dest{}))
}

// wrongDests are destinations that may not be.
func wrongDests() []api.Dest {
	var l []api.Dest
	for _, size := range []int{0, 1, 2, 3, 5, 6, 7, 8, 12, 15, 16, 17, 20, 256, 260, 65540} {
		l = append(l, api.Dest{Addr: strings.Repeat("a", size), Seq: 1}, api.Dest{Addr: strings.Repeat("\x00", size)}, api.Dest{Addr: strings.Repeat("\xff", size), Seq: most})
	}
	// Bytes count, not letters.
	l = append(l, api.Dest{Addr: "éééé", Seq: 1}, api.Dest{Addr: "a"}, api.Dest{Seq: -1}, api.Dest{Addr: "abc", Seq: 1 << 32})
	for _, seq := range slices.Concat(wrongSeqs, ends) {
		l = append(l, api.Dest{Addr: "abcd", Seq: seq}, api.Dest{Addr: "\x00\x00\x00\x00", Seq: seq})
	}
	return l
}

// One destination that may not be, at any place, leaves no bytes at all.
func TestP16_1WrongDests(t *testing.T) {
	for _, n := range []int{1, 2, 3, 254, 255} {
		m := api.Msg{Kind: api.Rerr, List: dests(n)}
		for _, at := range []int{0, n / 2, n - 1} {
			for _, d := range wrongDests() {
				checkNoPut(t, "List", withDest(m, at, d))
			}
		}
	}
	// What is too short isn't made up for by what is too long, in the address
	// of another destination.
	for n := range 9 {
		if n != 4 {
			checkNoPut(t, "both", with(plain(), "List", []api.Dest{{Addr: "abcdefgh"[:n]}, {Addr: "abcdefgh"[n:]}}))
		}
	}
}

// Each destination that may be, at any place.
func TestP16_1RightDests(t *testing.T) {
	addrs := []string{"\x00\x00\x00\x00", "\xff\xff\xff\xff", "abcd", "\x80\x00\x00\x01", "éé", "ß\x00\xff"}
	for _, n := range []int{1, 2, 3, 254, 255} {
		m := api.Msg{Kind: api.Rerr, Flags: 1, List: dests(n), Subs: []api.Sub{sized(1, 4)}}
		for _, at := range []int{0, n / 2, n - 1} {
			for _, seq := range rightSeqs {
				v := withDest(m, at, api.Dest{Addr: addrs[seq%len(addrs)], Seq: seq})
				checkPut(t, v, spelled(v))
			}
			for _, addr := range addrs {
				v := withDest(m, at, api.Dest{Addr: addr, Seq: 0x01020304})
				checkPut(t, v, spelled(v))
			}
		}
	}
	twice := with(plain(), "List", slices.Repeat([]api.Dest{{Addr: "abcd", Seq: 8}}, 2))
	checkPut(t, twice, spelled(twice))
}

// A bit beyond those that there is room for makes a number wrong, though those
// within would do.
func TestP16_1BitsBeyond(t *testing.T) {
	for bit := range 64 {
		for _, low := range rightSeqs {
			m := withDest(plain(), 1, api.Dest{Addr: "abcd", Seq: low | 1<<bit})
			if bit < 32 {
				checkPut(t, m, spelled(m))
			} else {
				checkNoPut(t, "Seq", m)
			}
		}
	}
}

// Each byte of the destinations is read and written at its own place, whatever
// it holds.
func TestP16_1EachByte(t *testing.T) {
	m := with(plain(), "Subs", []api.Sub{sized(1, 4)})
	for at := headEnd; at < endOf(m); at++ {
		for v := range 256 {
			b := []byte(spelled(m))
			b[at] = byte(v)
			i := (at - headEnd) / 8
			d := b[headEnd+8*i:]
			seq := int(d[4])<<24 | int(d[5])<<16 | int(d[6])<<8 | int(d[7])
			checkPut(t, withDest(m, i, api.Dest{Addr: string(d[:4]), Seq: seq}), string(b))
		}
	}
}

// Another Kind is none of this layer, though all fields would do; some of them
// are bare as another kind too.
func TestP16_1Kinds(t *testing.T) {
	kinds := []int{0, -1, -5, 15, 16, 255, 256, 256 + api.Rerr, 1<<32 + api.Rerr, math.MaxInt, math.MinInt, math.MinInt + api.Rerr}
	for kind := api.RipRoute; kind <= api.LastOfKind; kind++ {
		if kind != api.Rerr {
			kinds = append(kinds, kind)
		}
	}
	for _, kind := range kinds {
		for _, m := range messages() {
			checkNoPut(t, "Kind", with(m, "Kind", kind))
		}
		checkNoPut(t, "Kind alone", api.Msg{Kind: kind})
		checkNoPut(t, "Kind and Subs", api.Msg{Kind: kind, Subs: []api.Sub{sized(1, 4)}})
	}
	checkNoPut(t, "an error without fields", api.Msg{Kind: api.Rerr})
	checkNoPut(t, "nothing", api.Msg{})
}

// A field that an error doesn't have may not be set, to whatever it is.
func TestP16_1OtherFields(t *testing.T) {
	others := 0
	for i := range reflect.TypeFor[api.Msg]().NumField() {
		name := reflect.TypeFor[api.Msg]().Field(i).Name
		if slices.Contains(ownFields, name) {
			continue
		}
		others++
		for _, m := range messages() {
			for _, v := range othersOf(t, name) {
				checkNoPut(t, name, with(m, name, v))
			}
		}
	}
	if want := reflect.TypeFor[api.Msg]().NumField() - len(ownFields); others != want {
		t.Errorf("%d other fields, want %d", others, want)
	}
}

// othersOf are values of the field of that name that are not 0, or empty.
func othersOf(t *testing.T, name string) []any {
	t.Helper()
	switch f, _ := reflect.TypeFor[api.Msg]().FieldByName(name); f.Type {
	case reflect.TypeFor[int]():
		return []any{1, -1, 2, 3, 255, 256, 1 << 32, math.MaxInt, math.MinInt}
	case reflect.TypeFor[string]():
		return []any{"\x00", "a", "\x00\x00\x00\x00", "abcd", strings.Repeat("\x00", 16)}
	}
	t.Fatalf("no values for the field %s", name)
	return nil
}

// One extension that may not be, at any place, leaves no bytes at all.
func TestP16_1WrongSubs(t *testing.T) {
	bad := []api.Sub{{Type: -1}, {Type: 256}, {Type: 257, Data: "ab"}, {Type: 1<<32 + 1}, {Type: math.MaxInt}, {Type: math.MinInt}, sized(1, 256), sized(0, 257), sized(255, 512), sized(256, 256)}
	for _, n := range []int{1, 2, 3, 60, 61, 200} {
		for _, at := range []int{0, n / 2, n - 1} {
			for _, e := range bad {
				l := slices.Repeat([]api.Sub{sized(1, 4)}, n)
				l[at] = e
				for _, m := range heads() {
					checkNoPut(t, "Subs", with(m, "Subs", l))
				}
			}
		}
	}
}

// roomy is l, with spare room behind it that holds other values of its own.
func roomy[T any](l []T, spare T) []T {
	room := append(slices.Clone(l), slices.Repeat([]T{spare}, 4)...)
	return room[:len(l)]
}

// What is handed in stays as it was, its spare room too.
func TestP16_1KeepsNothing(t *testing.T) {
	wrong := []api.Msg{
		with(plain(), "Subs", []api.Sub{sized(1, 4), {Type: 256}}), with(plain(), "Flags", 2),
		withDest(plain(), 2, api.Dest{Addr: "abc", Seq: 1}), with(plain(), "List", dests(256)), {Kind: api.Rerr},
	}
	for _, m := range append(messages(), wrong...) {
		list, subs := roomy(m.List, api.Dest{Addr: "spare", Seq: -1}), roomy(m.Subs, api.Sub{Type: 1000, Data: "spare"})
		allList, allSubs := list[:cap(list)], subs[:cap(subs)]
		listBefore, subsBefore := slices.Clone(allList), slices.Clone(allSubs)
		for _, in := range []api.Msg{with(with(m, "List", list), "Subs", subs), with(with(m, "List", slices.Clip(list)), "Subs", slices.Clip(subs))} {
			Right(in)
			Put(in)
		}
		if !slices.Equal(allList, listBefore) || !slices.Equal(allSubs, subsBefore) {
			t.Errorf("the lists of %s, or their spare room, were changed", sketch(m))
		}
	}
}

// What is answered hangs on nothing that was asked ahead, and shares no list
// with another answer.
func TestP16_1Again(t *testing.T) {
	for _, head := range heads() {
		want := with(head, "Subs", []api.Sub{{Type: 1, Data: "abcd"}, {Type: 2}})
		b := spelled(want)
		for range 3 {
			one, _, _ := Get(b)
			two, _, _ := Get(b)
			if len(one.List) != len(want.List) || len(one.Subs) != len(want.Subs) {
				t.Fatalf("Get of %s = %s", sketch(want), sketch(one))
			}
			one.Subs[0], one.Subs[1] = api.Sub{Type: 9, Data: "x"}, api.Sub{Type: -1}
			one.List[0] = api.Dest{Addr: "x", Seq: -1}
			if !same(two, want) {
				t.Errorf("Get shares a list with another answer: %s", sketch(two))
			}
			checkNoPut(t, "changed", one)
			checkPut(t, want, b)
			checkError(t, b[:len(b)-1], len(b)-2, api.ErrShort)
			checkPut(t, least(), spelled(least()))
		}
	}
}
