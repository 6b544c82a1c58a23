package sub

import (
	"math/rand"
	"slices"
	"strings"
	"testing"

	"roadbook/api"
)

// checkBack holds the Subs of l, which may be, to come back of their bytes.
func checkBack(t *testing.T, l []api.Sub) {
	t.Helper()
	s, ok := Put(l)
	back, known, err := Get(s)
	if !ok || !known || err != api.OK || !slices.Equal(back, l) {
		t.Errorf("%s come back of %d bytes, %t, as %s, %t, error %d", sketch(l), len(s), ok, sketch(back), known, err)
	}
}

// checkBytesBack holds s to be nothing, beside an error that there may be; or to
// be Subs that may be, and come back as they are of bytes that are no more, and
// that are s itself, if all of it is kept.
func checkBytesBack(t *testing.T, s string) {
	t.Helper()
	l, known, err := Get(s)
	if err != api.OK {
		if len(l) != 0 || known || err != api.ErrShort && err != api.ErrLong {
			t.Errorf("Get of %d bytes, %.60q, = %s, %t, error %d", len(s), s, sketch(l), known, err)
		}
		return
	}
	back, ok := Put(l)
	if !Right(l) || !ok || len(back) > len(s) || len(back) == len(s) && back != s {
		t.Errorf("%d bytes, %.60q, come back as %d, %.60q, %t, of %s", len(s), s, len(back), back, ok, sketch(l))
	}
	checkGet(t, back, l, true)
}

func TestP19_2SubsComeBack(t *testing.T) {
	for _, l := range lists() {
		checkBack(t, l)
	}
	for typ := 2; typ <= 127; typ++ {
		for size := range 199 {
			checkBack(t, []api.Sub{sized(typ, size)})
		}
	}
	r := rand.New(rand.NewSource(3))
	for range 20000 {
		checkBack(t, someList(r, 20))
	}
}

func TestP19_2BytesComeBack(t *testing.T) {
	for _, l := range slices.Concat(lists(), tooLong(), pads()) {
		checkBytesBack(t, spelled(l))
	}
	for first := range 256 {
		checkBytesBack(t, string([]byte{byte(first)}))
		for second := range 256 {
			head := string([]byte{byte(first), byte(second)})
			for _, s := range []string{head, head + "\x00", head + "\x02\x00", head + "\x01\x01\x80\x00", head + counted(200)} {
				checkBytesBack(t, s)
				checkBytesBack(t, "\x03\x01a"+s)
			}
		}
	}
	r := rand.New(rand.NewSource(4))
	for range 20000 {
		s := []byte(someBytes(r, r.Intn(60)))
		for i := range s {
			// Small numbers make TLVs that are all there.
			if r.Intn(3) > 0 {
				s[i] %= 5
			}
		}
		checkBytesBack(t, string(s))
		checkBytesBack(t, spelled(someMix(r, 12)))
	}
}

// Different Subs have different bytes, and those of two lists, one behind the
// other, are of the lists one behind the other.
func TestP19_2Together(t *testing.T) {
	r := rand.New(rand.NewSource(5))
	for range 5000 {
		a, b := someList(r, 3), someList(r, 3)
		first, _ := Put(a)
		second, _ := Put(b)
		if slices.Equal(a, b) != (first == second) {
			t.Errorf("%s and %s have %.60q and %.60q", sketch(a), sketch(b), first, second)
		}
		both := slices.Concat(a, b)
		checkMix(t, both)
		if len(first+second) > most {
			checkNoPut(t, both)
		} else {
			checkPut(t, both, first+second)
		}
	}
	for _, p := range [][2][]api.Sub{
		{{{Type: 2, Data: "\x02\x00"}}, {{Type: 2}, {Type: 2}}},
		{{{Type: 2, Data: "\x03\x00"}}, {{Type: 2}, {Type: 3}}},
		{{{Type: 2}}, {{Type: 2}, {Type: 2}}},
		{nil, {{Type: 2}}},
	} {
		a, _ := Put(p[0])
		b, _ := Put(p[1])
		if a == b {
			t.Errorf("%+v and %+v both have the bytes %q", p[0], p[1], a)
		}
	}
}

// checkSameGet holds two texts to be the same sub-TLVs, or to have the same
// error.
func checkSameGet(t *testing.T, a, b string) {
	t.Helper()
	l, known, err := Get(a)
	if err != api.OK {
		checkNoGet(t, b, err)
	} else {
		checkGet(t, b, l, known)
	}
}

// Padding of both types, with and without data, changes nothing at any place
// between two sub-TLVs, ahead of the first and behind the last.
func TestP19_2PaddingChangesNothing(t *testing.T) {
	r := rand.New(rand.NewSource(6))
	all := append(lists()[:20], tooLong()[4:12]...)
	all = append(all, []api.Sub{{Type: 128}}, []api.Sub{{Type: 2}, {Type: 255, Data: "ab"}, {Type: 3}}, []api.Sub{{}, {Type: 2}, {Type: 1}})
	for range 100 {
		all = append(all, someMix(r, 6))
	}
	for _, l := range all {
		s, places := spelled(l), begins(l)
		for _, pad := range pads() {
			p := spelled(pad)
			for _, at := range places {
				checkSameGet(t, s, s[:at]+p+s[at:])
			}
			checkSameGet(t, s, spelled(padded(l, pad)))
		}
	}
}

// padded is l with pad ahead of each sub-TLV, and behind the last.
func padded(l, pad []api.Sub) []api.Sub {
	all := slices.Clone(pad)
	for _, s := range l {
		all = append(append(all, s), pad...)
	}
	return all
}

// Padding ahead of bytes that aren't TLVs, or are too many, changes nothing
// either.
func TestP19_2PaddingAheadOfErrors(t *testing.T) {
	for _, pad := range pads() {
		p := spelled(pad)
		for _, s := range []string{"\x01", "\x02", "\x80\x01", "\x02\x00\x02\x02a"} {
			checkNoGet(t, p+s, api.ErrShort)
			checkNoGet(t, "\x02\x00"+p+s, api.ErrShort)
		}
		checkNoGet(t, p+"\x02\xc7"+counted(199)+p, api.ErrLong)
		checkNoGet(t, p+"\x02\xc6"+counted(198)+p+"\x02\x00"+p, api.ErrLong)
		checkNoGet(t, p+"\x02\xc7"+counted(199)+p+"\x01", api.ErrShort)
	}
}

// What is handed in stays as it was, its spare room too.
func TestP19_2KeepsNothing(t *testing.T) {
	for _, l := range slices.Concat(lists(), tooLong(), [][]api.Sub{{{Type: 2}, {Type: 1}, {Type: 128}}}) {
		room := make([]api.Sub, len(l)+4)
		for i := range room {
			room[i] = api.Sub{Type: 1000 + i, Data: "spare"}
		}
		copy(room, l)
		before := slices.Clone(room)
		for _, in := range [][]api.Sub{room[:len(l)], room[:len(l):len(l)]} {
			Right(in)
			Put(in)
		}
		if !slices.Equal(room, before) {
			t.Errorf("%s, or their spare room, were changed", sketch(l))
		}
		s := "\x00" + spelled(l) + "\x80\x00"
		text := strings.Clone(s)
		if Get(s); s != text {
			t.Errorf("%.60q was changed", text)
		}
	}
}

// What is answered is new: to change it changes no other answer, and nothing
// hangs on what was asked ahead.
func TestP19_2Again(t *testing.T) {
	const b = "\x02\x04abcd\x7f\x00"
	want := []api.Sub{{Type: 2, Data: "abcd"}, {Type: 127}}
	for range 3 {
		first, _, _ := Get(b)
		second, _, _ := Get(b)
		for i := range first {
			first[i] = api.Sub{Type: -1, Data: "gone"}
		}
		if first = append(first, api.Sub{Type: -2}); !slices.Equal(second, want) {
			t.Errorf("Get(%q) shares a list with another answer: %+v", b, second)
		}
		checkNoPut(t, first)
		checkPut(t, want, b)
		checkNoGet(t, b[:7], api.ErrShort)
		checkGet(t, "\x80\x00", nil, false)
		checkGet(t, b, want, true)
		checkNoGet(t, b+"\x02\xc7"+counted(199), api.ErrLong)
		checkGet(t, "", nil, true)
		checkPut(t, nil, "")
	}
}
