package frame

import (
	"math/rand"
	"slices"
	"strings"
	"testing"

	"roadbook/api"
)

// checkBack holds body to come back of its datagram, with nothing behind it.
func checkBack(t *testing.T, body string) {
	t.Helper()
	b, ok := Wrap(body)
	if !ok || len(b) != 4+len(body) {
		t.Errorf("Wrap of %d bytes = %d bytes, %t", len(body), len(b), ok)
	}
	checkBody(t, b, body, "")
}

func TestP18_3BodiesComeBack(t *testing.T) {
	for _, size := range bodySizes {
		for _, fill := range fills {
			checkBack(t, long(fill, size))
		}
		checkBack(t, counted(size))
	}
	r := rand.New(rand.NewSource(3))
	for range 500 {
		checkBack(t, someBytes(r, r.Intn(300)))
		checkBack(t, someBytes(r, r.Intn(room+1)))
	}
}

// checkDatagramBack holds b, if it is a datagram, to be that of its body, and its
// trailer; and if it is none, to be so at a place within it.
func checkDatagramBack(t *testing.T, b string) {
	t.Helper()
	body, at, err := Body(b)
	if err != api.OK {
		if body != "" || at < 0 || at > len(b) {
			t.Errorf("Body of %d bytes, %.60q, = %d bytes, at %d, error %d", len(b), b, len(body), at, err)
		}
		return
	}
	head, ok := Wrap(body)
	if back := head + Trailer(b); back != b || !ok || at != 0 {
		t.Errorf("%d bytes, %.60q, come back as %d, %.60q, %t, at %d", len(b), b, len(back), back, ok, at)
	}
}

func TestP18_3DatagramsComeBack(t *testing.T) {
	r := rand.New(rand.NewSource(4))
	for range 20000 {
		b := someBytes(r, r.Intn(40))
		checkDatagramBack(t, b)
		checkBytes(t, b)
		b = headed(42, 2, r.Intn(40), b)
		checkDatagramBack(t, b)
		checkBytes(t, b)
	}
	for _, size := range bodySizes {
		for _, trailer := range trailers() {
			checkDatagramBack(t, wrapped(counted(size), trailer))
		}
	}
}

// put is the bytes of the TLVs of l, by Put where it is asked for their types.
func put(t *testing.T, l []api.Tlv) string {
	t.Helper()
	var b strings.Builder
	for _, v := range l {
		s, ok := Put(v.Type, v.Data)
		if v.Type == 0 {
			s, ok = "\x00", !ok
		}
		if !ok {
			t.Errorf("Put(%d, %.60q) = %.60q, %t", v.Type, v.Data, s, ok)
		}
		b.WriteString(s)
	}
	return b.String()
}

func TestP18_3TlvsComeBack(t *testing.T) {
	r := rand.New(rand.NewSource(5))
	all := lists()
	for range 2000 {
		all = append(all, someList(r, 12))
	}
	for _, l := range all {
		s := put(t, l)
		if s != spelled(l) {
			t.Errorf("%s have %.60q", sketch(l), s)
		}
		checkSplit(t, s, l)
	}
}

// checkSplitBack holds s, if it is TLVs, to come back of them, and if it is not,
// to be nothing at a place within it, ahead of which all of it is TLVs.
func checkSplitBack(t *testing.T, s string) {
	t.Helper()
	const base = 4
	l, at, err := Split(s, base)
	switch err {
	case api.OK:
		if put(t, l) != s || at != 0 || !slices.Equal(l, placed(l, base)) {
			t.Errorf("%d bytes, %.60q, come back as %.60q, of %s, at %d", len(s), s, put(t, l), sketch(l), at)
		}
	case api.ErrShort:
		if len(l) != 0 || at < base || at >= base+len(s) {
			t.Fatalf("Split of %d bytes, %.60q, = %s, at %d", len(s), s, sketch(l), at)
		}
		whole, _, err := Split(s[:at-base], base)
		if err != api.OK || put(t, whole) != s[:at-base] {
			t.Errorf("Split of %d bytes, %.60q, is short at %d, but ahead of it stand %s, error %d", len(s), s, at, sketch(whole), err)
		}
	default:
		t.Errorf("Split of %d bytes, %.60q, has the error %d", len(s), s, err)
	}
}

func TestP18_3BytesComeBack(t *testing.T) {
	checkSplitBack(t, "")
	for first := range 256 {
		checkSplitBack(t, string([]byte{byte(first)}))
		for second := range 256 {
			b := string([]byte{byte(first), byte(second)})
			checkSplitBack(t, b)
			checkSplitBack(t, b+"\x00")
			checkSplitBack(t, b+"\x01\x00")
		}
	}
	r := rand.New(rand.NewSource(6))
	for range 20000 {
		s := []byte(someBytes(r, r.Intn(40)))
		for i := range s {
			// Small numbers make TLVs that are all there.
			if r.Intn(3) > 0 {
				s[i] %= 5
			}
		}
		checkSplitBack(t, string(s))
	}
}

// Different TLVs have different bytes, and TLVs one behind the other are taken
// apart again wherever they were put together.
func TestP18_3Together(t *testing.T) {
	r := rand.New(rand.NewSource(7))
	for range 2000 {
		a, b := someList(r, 6), someList(r, 6)
		if slices.Equal(a, b) != (put(t, a) == put(t, b)) {
			t.Errorf("%s and %s have %.60q and %.60q", sketch(a), sketch(b), put(t, a), put(t, b))
		}
		checkSplit(t, put(t, a)+put(t, b), slices.Concat(a, b))
	}
}

// A datagram's TLVs come back of it, at their places, those of the trailer too.
func TestP18_3WholeDatagrams(t *testing.T) {
	r := rand.New(rand.NewSource(8))
	for range 1000 {
		l, behind := someList(r, 12), someList(r, 4)
		datagram, ok := Wrap(put(t, l))
		b := datagram + put(t, behind)
		body, at, err := Body(b)
		if !ok || at != 0 || err != api.OK {
			t.Fatalf("Body(%.60q) = %.60q, at %d, error %d", b, body, at, err)
		}
		got, _, err := Split(body, 4)
		rest, _, restErr := Split(Trailer(b), 4+len(body))
		if !slices.Equal(got, placed(l, 4)) || err != api.OK {
			t.Errorf("%s come back as %s, error %d", sketch(l), sketch(got), err)
		}
		if !slices.Equal(rest, placed(behind, 4+len(body))) || restErr != api.OK {
			t.Errorf("%s, in the trailer, come back as %s, error %d", sketch(behind), sketch(rest), restErr)
		}
		for _, v := range slices.Concat(got, rest) {
			if b[v.At] != byte(v.Type) {
				t.Errorf("at %d of %.60q stands no TLV of the type %d", v.At, b, v.Type)
			}
		}
	}
}

// What is handed in stays as it was, and what is answered is new: to change it
// changes no other answer.
func TestP18_3KeepsNothing(t *testing.T) {
	for _, l := range lists() {
		s := spelled(l)
		before := strings.Clone(s)
		datagram := wrapped(s, "z")
		whole := strings.Clone(datagram)
		first, _, _ := Split(s, 4)
		second, _, _ := Split(s, 4)
		for i := range first {
			first[i] = api.Tlv{Type: -1, At: -1, Data: "gone"}
		}
		if first = append(first, api.Tlv{Type: -2}); !slices.Equal(second, placed(l, 4)) {
			t.Errorf("Split of %.60q shares a list with another answer: %s", s, sketch(second))
		}
		checkSplit(t, s, l)
		checkBody(t, datagram, before, "z")
		checkWrap(t, s, wrapped(before, ""))
		for _, v := range l {
			data := strings.Clone(v.Data)
			Put(v.Type, v.Data)
			if v.Data != data {
				t.Errorf("Put changed %.60q", data)
			}
		}
		if s != before || datagram != whole {
			t.Errorf("%.60q was changed", before)
		}
	}
}

// A call hangs on its arguments alone.
func TestP18_3Again(t *testing.T) {
	for range 3 {
		for _, l := range lists()[:16] {
			s := spelled(l)
			checkSplit(t, s, l)
			checkShort(t, s+"\x01", len(s))
			checkSplit(t, s, l)
			checkBody(t, wrapped(s, ""), s, "")
			checkNoBody(t, "\x2b"+wrapped(s, ""), 0, api.ErrKind)
			checkBody(t, wrapped(s, ""), s, "")
			checkNoWrap(t, counted(room+1))
			checkWrap(t, s, wrapped(s, ""))
			checkNoPut(t, 0, s)
			checkPut(t, 7, "ab", "\x07\x02ab")
		}
	}
}
