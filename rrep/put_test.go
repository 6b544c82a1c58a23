package rrep

import (
	"encoding/binary"
	"math"
	"reflect"
	"slices"
	"strings"
	"testing"

	"roadbook/api"
)

// ownFields are the fields of each kind, and its Kind.
var ownFields = map[int][]string{
	api.Rrep:    strings.Fields("Kind Flags Plen Hops Addr Seq Orig Interval Subs"),
	api.RrepAck: strings.Fields("Kind Subs"),
}

func TestP15_1Example(t *testing.T) {
	checkPut(t, ack(), "\x04\x00")
	checkPut(t, with(ack(), "Subs", []api.Sub{{Type: 7, Data: "x"}, {Type: 2}}), "\x04\x00\x07\x01x\x02\x00")
	m := api.Msg{Kind: api.Rrep, Flags: 1, Plen: 24, Hops: 5, Addr: "abcd", Seq: 8, Orig: "efgh", Interval: 9}
	const b = "\x02\x40\x18\x05abcd\x00\x00\x00\x08efgh\x00\x00\x00\x09"
	checkPut(t, m, b)
	m.Subs = []api.Sub{{Type: 1, Data: "\x00\x00\x03\xe8"}, {Type: 2}}
	checkPut(t, m, b+"\x01\x04\x00\x00\x03\xe8\x02\x00")
	checkPut(t, plain(), "\x02\x80\x15\xc8\x0a\x01\x02\x03\xa1\xa2\xa3\xa4\xc0\xa8\x00\x09\xf1\xf2\xf3\xf4")
	checkPut(t, least(), filled(2, 0, 20))
	checkPut(t, greatest(), "\x02\xc0\x1f"+strings.Repeat("\xff", 17))
}

func TestP15_1Messages(t *testing.T) {
	for _, m := range messages() {
		checkPut(t, m, spelled(m))
	}
}

// Each number within its range and beyond it, whatever the other fields are.
func TestP15_1Numbers(t *testing.T) {
	for _, m := range replies() {
		for name, n := range numbers {
			for _, v := range n.right {
				checkPut(t, with(m, name, v), spelled(with(m, name, v)))
			}
			for _, v := range slices.Concat(n.wrong, ends) {
				checkNoPut(t, name, with(m, name, v))
			}
		}
	}
}

// A bit beyond those that there is room for makes a number wrong, though those
// within would do.
func TestP15_1BitsBeyond(t *testing.T) {
	for name, n := range numbers {
		for bit := range 64 {
			for _, low := range n.right {
				v := low | 1<<bit
				if m := with(plain(), name, v); bit < n.room {
					checkPut(t, m, spelled(m))
				} else {
					checkNoPut(t, name, m)
				}
			}
		}
	}
}

// Flags stand in the highest two bits of the second byte, Plen in the lowest
// five of the third one, all of them.
func TestP15_1EachFlagsAndPlen(t *testing.T) {
	b := spelled(plain())
	for flags := range 4 {
		for plen := range 32 {
			m := with(with(plain(), "Flags", flags), "Plen", plen)
			checkPut(t, m, "\x02"+string([]byte{byte(64 * flags), byte(plen)})+b[3:])
		}
	}
}

// Each byte behind the third one is read and written at its own place, whatever
// it holds.
func TestP15_1EachByte(t *testing.T) {
	field := func(b []byte) int { return int(binary.BigEndian.Uint32(b)) }
	for at := 3; at < replyEnd; at++ {
		for v := range 256 {
			b := []byte(spelled(plain()))
			b[at] = byte(v)
			checkPut(t, api.Msg{
				Kind: api.Rrep, Flags: 2, Plen: 21, Hops: int(b[3]), Addr: string(b[4:8]),
				Seq: field(b[8:]), Orig: string(b[12:16]), Interval: field(b[16:]),
			}, string(b))
		}
	}
}

func TestP15_1Addresses(t *testing.T) {
	wrong := []int{0, 1, 2, 3, 5, 6, 7, 8, 12, 15, 16, 17, 20, 256, 260, 65540}
	for _, m := range replies() {
		for _, fill := range []string{"\x00", "\x01", "a", "\x80", "\xff"} {
			for _, name := range []string{"Addr", "Orig"} {
				v := with(m, name, strings.Repeat(fill, 4))
				checkPut(t, v, spelled(v))
				for _, size := range wrong {
					checkNoPut(t, name, with(m, name, strings.Repeat(fill, size)))
				}
			}
		}
	}
	// Bytes count, not letters, and one that is too short isn't made up for by
	// another that is too long.
	checkNoPut(t, "letters", with(plain(), "Addr", "éééé"))
	checkNoPut(t, "letters", with(plain(), "Orig", "éééé"))
	v := with(with(plain(), "Addr", "éé"), "Orig", "ß\x00\xff")
	checkPut(t, v, spelled(v))
	for n := range 9 {
		if n != 4 {
			checkNoPut(t, "both", with(with(plain(), "Addr", "abcdefgh"[:n]), "Orig", "abcdefgh"[n:]))
		}
	}
}

// Another Kind is none of this layer, though all fields would do; some of them
// are bare as another kind too. Neither kind is right as the other one, but for
// one without any field.
func TestP15_1Kinds(t *testing.T) {
	kinds := []int{0, -1, -2, -4, -6, 15, 16, 255, 256, 256 + api.Rrep, 256 + api.RrepAck, 1<<32 + api.Rrep, 1<<32 + api.RrepAck, math.MaxInt, math.MinInt, math.MinInt + api.Rrep, math.MinInt + api.RrepAck}
	for kind := api.RipRoute; kind <= api.LastOfKind; kind++ {
		if kind != api.Rrep && kind != api.RrepAck {
			kinds = append(kinds, kind)
		}
	}
	for _, kind := range kinds {
		for _, m := range messages() {
			checkNoPut(t, "Kind", with(m, "Kind", kind))
		}
		checkNoPut(t, "Kind alone", api.Msg{Kind: kind})
	}
	for _, m := range replies() {
		checkNoPut(t, "a reply that acknowledges", with(m, "Kind", api.RrepAck))
	}
	for _, m := range listed(ack()) {
		checkNoPut(t, "a reply without fields", with(m, "Kind", api.Rrep))
	}
	checkNoPut(t, "nothing", api.Msg{})
}

// A field that a kind doesn't have may not be set, to whatever it is; that which
// isn't asked for here is a list that holds nothing.
func TestP15_1OtherFields(t *testing.T) {
	for kind, own := range ownFields {
		others := 0
		for i := range reflect.TypeFor[api.Msg]().NumField() {
			name := reflect.TypeFor[api.Msg]().Field(i).Name
			if slices.Contains(own, name) {
				continue
			}
			others++
			for _, m := range messages() {
				for _, v := range othersOf(t, name) {
					if m.Kind == kind {
						checkNoPut(t, name, with(m, name, v))
					}
				}
			}
		}
		if want := reflect.TypeFor[api.Msg]().NumField() - len(own); others != want {
			t.Errorf("%d other fields, want %d", others, want)
		}
	}
	for _, m := range heads() {
		checkPut(t, with(m, "List", []api.Dest{}), spelled(m))
	}
}

// othersOf are values of the field of that name that are not 0, or empty.
func othersOf(t *testing.T, name string) []any {
	t.Helper()
	switch f, _ := reflect.TypeFor[api.Msg]().FieldByName(name); f.Type {
	case reflect.TypeFor[int]():
		return []any{1, -1, 3, 4, 31, 255, 256, 1 << 32, math.MaxInt, math.MinInt}
	case reflect.TypeFor[string]():
		return []any{"\x00", "a", "\x00\x00\x00\x00", "abcd", strings.Repeat("\x00", 16)}
	case reflect.TypeFor[[]api.Dest]():
		return []any{[]api.Dest{{}}, []api.Dest{{Addr: "abcd", Seq: 1}, {}}}
	}
	t.Fatalf("no values for the field %s", name)
	return nil
}

// One extension that may not be, at any place, leaves no bytes at all.
func TestP15_1WrongSubs(t *testing.T) {
	bad := []api.Sub{{Type: -1}, {Type: 256}, {Type: 257, Data: "ab"}, {Type: 1<<32 + 1}, {Type: math.MaxInt}, {Type: math.MinInt}, sized(1, 256), sized(0, 257), sized(255, 512), sized(256, 256)}
	for _, n := range []int{1, 2, 3, 60, 61, 200} {
		for _, at := range []int{0, n / 2, n - 1} {
			for _, e := range bad {
				l := slices.Repeat([]api.Sub{sized(1, 4)}, n)
				l[at] = e
				for _, m := range heads() {
					checkNoPut(t, "Subs", with(m, "Subs", l))
				}
			}
		}
	}
}

// What is handed in stays as it was, its spare room too.
func TestP15_1KeepsNothing(t *testing.T) {
	wrong := []api.Sub{sized(1, 4), {Type: 256}}
	for _, m := range append(messages(), with(plain(), "Subs", wrong), with(ack(), "Subs", wrong), with(plain(), "Hops", 256)) {
		room := make([]api.Sub, len(m.Subs)+4)
		for i := range room {
			room[i] = api.Sub{Type: 1000 + i, Data: "spare"}
		}
		copy(room, m.Subs)
		before := slices.Clone(room)
		for _, in := range [][]api.Sub{room[:len(m.Subs)], room[:len(m.Subs):len(m.Subs)]} {
			Right(with(m, "Subs", in))
			Put(with(m, "Subs", in))
		}
		if !slices.Equal(room, before) {
			t.Errorf("the Subs of %s, or their spare room, were changed", sketch(m))
		}
	}
}

// What is answered hangs on nothing that was asked ahead, and shares no list
// with another answer.
func TestP15_1Again(t *testing.T) {
	for _, head := range heads() {
		want := with(head, "Subs", []api.Sub{{Type: 1, Data: "abcd"}, {Type: 2}})
		b := spelled(want)
		for range 3 {
			one, _, _ := Get(b)
			two, _, _ := Get(b)
			one.Subs[0], one.Subs[1] = api.Sub{Type: 9, Data: "x"}, api.Sub{Type: -1}
			if !same(two, want) {
				t.Errorf("Get shares a list with another answer: %s", sketch(two))
			}
			checkNoPut(t, "changed", one)
			checkPut(t, want, b)
			checkError(t, b[:len(b)-1], len(b)-2, api.ErrShort)
			checkPut(t, least(), spelled(least()))
			checkPut(t, ack(), "\x04\x00")
		}
	}
}
