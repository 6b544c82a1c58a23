package rrep

import (
	"fmt"
	"math/rand"
	"slices"
	"testing"

	"roadbook/api"
)

func TestP15_2MessagesComeBack(t *testing.T) {
	r := rand.New(rand.NewSource(2))
	for range 20000 {
		m := someMessage(r)
		b, ok := Put(m)
		back, at, err := Get(b)
		if !ok || at != 0 || err != api.OK || !same(back, m) {
			t.Errorf("%s comes back of %.99q, %t, as %s, at %d, error %d", sketch(m), b, ok, sketch(back), at, err)
		}
		checkBytes(t, b)
	}
}

// Bytes of any kind that begin with 2 or 4 come back of what they are, or tell
// the first error.
func TestP15_2BytesComeBack(t *testing.T) {
	for _, m := range messages() {
		checkBytes(t, spelled(m))
	}
	r := rand.New(rand.NewSource(3))
	for range 20000 {
		checkBytes(t, "\x02"+someBytes(r, r.Intn(60)))
		checkBytes(t, "\x04"+someBytes(r, r.Intn(60)))
		checkBytes(t, "\x04\x00"+someBytes(r, r.Intn(300)))
		b := []byte("\x02" + someBytes(r, 19+r.Intn(300)))
		b[1], b[2] = b[1]&0xc0, b[2]&0x1f
		checkBytes(t, string(b))
		b = []byte(spelled(someMessage(r)) + "\x00\x00"[:r.Intn(3)])
		b[1+r.Intn(len(b)-1)] = byte(r.Intn(256))
		checkBytes(t, string(b))
		b[0] ^= 6
		checkBytes(t, string(b))
	}
}

// A message that differs in one field alone, or in its Kind, has other bytes.
func TestP15_2EachItsOwn(t *testing.T) {
	for _, m := range replies() {
		seen := map[string]string{}
		note := func(what string, v api.Msg) {
			b, ok := Put(v)
			if other, is := seen[b]; is && !same(v, m) || !ok {
				t.Errorf("%s and %s both have the bytes %.99q, %t", other, what, b, ok)
			}
			seen[b] = what
		}
		note("as it was", m)
		note("acknowledged", with(ack(), "Subs", m.Subs))
		for name, n := range numbers {
			for _, v := range n.right {
				note(fmt.Sprint(name, v), with(m, name, v))
			}
		}
		for _, name := range []string{"Addr", "Orig"} {
			for _, v := range []string{"abcd", "dcba", "abce"} {
				note(name+v, with(m, name, v))
			}
		}
		for i, subs := range lists()[1:] {
			if !slices.Equal(subs, m.Subs) {
				note(fmt.Sprint("Subs", i), with(m, "Subs", subs))
			}
		}
	}
}
