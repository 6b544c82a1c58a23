package aodv

import (
	"math/rand"
	"reflect"
	"slices"
	"testing"

	"roadbook/api"
)

func TestP17_3MessagesComeBack(t *testing.T) {
	r := rand.New(rand.NewSource(3))
	for range 10000 {
		m := someMessage(r)
		b, at, err := Encode([]api.Msg{m})
		if !Right(m) || b != spelled(m) || at != 0 || err != api.OK {
			t.Errorf("Encode of %s = %.99q, at %d, error %d", sketch(m), b, at, err)
		}
		checkParse(t, b, m)
		checkBytes(t, b)
	}
}

// Bytes of any kind come back of what they are, or tell the first error.
func TestP17_3BytesComeBack(t *testing.T) {
	r := rand.New(rand.NewSource(4))
	for range 10000 {
		checkBytes(t, someBytes(r, r.Intn(60)))
		checkBytes(t, string([]byte{byte(r.Intn(6))})+someBytes(r, r.Intn(60)))
		checkBytes(t, "\x01\xf8\x00"+someBytes(r, r.Intn(100)))
		checkBytes(t, "\x02\xc0\x1f"+someBytes(r, r.Intn(100)))
		checkBytes(t, "\x03\x80\x00"+string([]byte{byte(r.Intn(4))})+someBytes(r, r.Intn(60)))
		checkBytes(t, "\x04\x00"+someBytes(r, r.Intn(300)))
		b := []byte(spelled(someMessage(r)) + "\x00\x00"[:r.Intn(3)])
		b[r.Intn(len(b))] = byte(r.Intn(256))
		checkBytes(t, string(b))
		b[0] = byte(r.Intn(6))
		checkBytes(t, string(b))
	}
}

// Long bytes, at random sizes about the limit, come back too.
func TestP17_3LongComeBack(t *testing.T) {
	r := rand.New(rand.NewSource(5))
	for range 300 {
		m := someMessage(r)
		b := spelled(long(m, limit-r.Intn(600)))
		checkBytes(t, b)
		checkBytes(t, b+someBytes(r, r.Intn(700)))
		checkBytes(t, b[:len(b)-r.Intn(300)])
	}
}

// Messages that differ in one field alone have other bytes.
func TestP17_3EachItsOwn(t *testing.T) {
	seen := map[string]api.Msg{}
	note := func(m api.Msg) {
		b, _, err := Encode([]api.Msg{m})
		if other, is := seen[b]; is && !same(other, m) || err != api.OK {
			t.Errorf("%s and %s both have the bytes %.99q, error %d", sketch(other), sketch(m), b, err)
		}
		seen[b] = m
	}
	for _, m := range messages() {
		note(m)
		for name, greatest := range greatestOf[m.Kind] {
			for _, n := range []int{0, 1, greatest / 2, greatest - 1, greatest} {
				note(with(m, name, n))
			}
		}
		for _, name := range []string{"Addr", "Orig"} {
			if slices.Contains(fields[m.Kind], name) {
				note(with(m, name, "wxyz"))
			}
		}
		if m.Kind == api.Rerr {
			note(with(m, "List", append(slices.Clone(m.List[1:]), api.Dest{Addr: "wxyz", Seq: 5})))
			note(with(m, "List", dests(7)))
		}
	}
}

// Byte for byte: no two datagrams are of one message.
func TestP17_3NoTwoBytes(t *testing.T) {
	for _, m := range heads() {
		b := spelled(m)
		for at := range len(b) {
			for v := range 256 {
				other := withByte(b, at, byte(v))
				l, _, err := Parse(other)
				if err == api.OK && same(l[0], m) != (other == b) {
					t.Errorf("%q is %s as well", other, sketch(m))
				}
			}
		}
	}
}

// Of each kind that there is, every field of it is read and written.
func TestP17_3EveryField(t *testing.T) {
	for _, m := range heads() {
		v := with(m, "Subs", []api.Sub{sized(1, 2)})
		l, _, _ := Parse(spelled(v))
		for _, name := range fields[m.Kind] {
			if reflect.ValueOf(l[0]).FieldByName(name).IsZero() {
				t.Errorf("%s isn't read of %q", name, spelled(v))
			}
		}
	}
}
