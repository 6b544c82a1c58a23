package rerr

import (
	"fmt"
	"math/rand"
	"slices"
	"testing"

	"roadbook/api"
)

func TestP16_2MessagesComeBack(t *testing.T) {
	r := rand.New(rand.NewSource(2))
	for range 10000 {
		m := someMessage(r)
		b, ok := Put(m)
		back, at, err := Get(b)
		if !ok || at != 0 || err != api.OK || !same(back, m) {
			t.Errorf("%s comes back of %.99q, %t, as %s, at %d, error %d", sketch(m), b, ok, sketch(back), at, err)
		}
		checkBytes(t, b)
	}
}

// Bytes of any kind that begin with 3 come back of what they are, or tell the
// first error.
func TestP16_2BytesComeBack(t *testing.T) {
	for _, m := range messages() {
		checkBytes(t, spelled(m))
	}
	r := rand.New(rand.NewSource(3))
	for range 10000 {
		checkBytes(t, "\x03"+someBytes(r, r.Intn(60)))
		checkBytes(t, "\x03\x00\x00"+someBytes(r, r.Intn(300)))
		checkBytes(t, "\x03\x80\x00"+string([]byte{byte(r.Intn(4))})+someBytes(r, r.Intn(60)))
		checkBytes(t, "\x03\x00\x00\x01"+someBytes(r, 8)+someBytes(r, r.Intn(300)))
		b := []byte(spelled(someMessage(r)) + "\x00\x00"[:r.Intn(3)])
		b[1+r.Intn(len(b)-1)] = byte(r.Intn(256))
		checkBytes(t, string(b))
		b[3] += byte(r.Intn(3) - 1)
		checkBytes(t, string(b))
	}
}

// A message that differs in one field alone has other bytes.
func TestP16_2EachItsOwn(t *testing.T) {
	for _, m := range messages() {
		seen := map[string]string{}
		note := func(what string, v api.Msg) {
			b, ok := Put(v)
			if other, is := seen[b]; is && !same(v, m) || !ok {
				t.Errorf("%s and %s both have the bytes %.99q, %t", other, what, b, ok)
			}
			seen[b] = what
		}
		note("as it was", m)
		note("the other Flags", with(m, "Flags", 1-m.Flags))
		for i := range m.List {
			if i > 2 && i < len(m.List)-2 {
				continue
			}
			for _, d := range []api.Dest{{Addr: "abcd", Seq: 1}, {Addr: "abcd", Seq: 2}, {Addr: "dcba", Seq: 1}, {Addr: "abce", Seq: 1 << 24}} {
				note(fmt.Sprint(i, d), withDest(m, i, d))
			}
		}
		for n := 1; n < len(m.List); n++ {
			note(fmt.Sprint(n, " destinations"), with(m, "List", m.List[:n]))
		}
		for i, subs := range lists()[1:] {
			if !slices.Equal(subs, m.Subs) {
				note(fmt.Sprint("Subs", i), with(m, "Subs", subs))
			}
		}
	}
}

// Destinations and extensions come back in their order.
func TestP16_2Order(t *testing.T) {
	m := with(with(plain(), "List", dests(255)), "Subs", []api.Sub{sized(1, 4), sized(2, 0), sized(1, 3)})
	turned := m
	turned.List, turned.Subs = slices.Clone(m.List), slices.Clone(m.Subs)
	slices.Reverse(turned.List)
	slices.Reverse(turned.Subs)
	for _, v := range []api.Msg{m, turned} {
		checkPut(t, v, spelled(v))
	}
	if spelled(m) == spelled(turned) {
		t.Error("both orders have the same bytes")
	}
}
