package ext

import (
	"bytes"
	"fmt"
	"math"
	"math/rand"
	"slices"
	"strings"
	"testing"

	"roadbook/api"
)

// interval is the chapter's example: the type 1, and four bytes.
var interval = api.Sub{Type: 1, Data: "\x00\x00\x03\xe8"}

// rightTypes are types that there are, wrongTypes such as there are not: their
// last bytes alone would do for most of them.
var (
	rightTypes = []int{0, 1, 2, 3, 10, 127, 128, 253, 254, 255}
	wrongTypes = []int{
		256, 257, 258, 511, 512, 65535, 65536, 65537, 1<<31 - 1, 1 << 31, 1 << 32, 1<<32 + 1, 1 << 56, math.MaxInt - 1, math.MaxInt,
		-1, -2, -128, -254, -255, -256, -257, -65536, -1 << 31, -1<<32 + 1, -1 << 56, math.MinInt + 1, math.MinInt,
	}
)

// rightSizes are how many bytes Data may have, wrongSizes how many it may not.
var (
	rightSizes = []int{0, 1, 2, 3, 4, 5, 127, 128, 253, 254, 255}
	wrongSizes = []int{256, 257, 258, 260, 300, 511, 512, 516, 65535, 65536, 65540, 1 << 20}
)

// fills are bytes of which Data of any size is made; the first ones look like
// heads of extensions.
var fills = []string{"\x00", "\x01", "\x01\x04", "\x04\x01", "a", "\x7f", "\x80", "é", "\xff", "\x00\xff"}

// long is a text of n bytes, made of fill.
func long(fill string, n int) string {
	return strings.Repeat(fill, n/len(fill)+1)[:n]
}

// sized is the extension of that type whose Data has n bytes, each another than
// the one next to it.
func sized(kind, n int) api.Sub {
	b := make([]byte, n)
	for i := range b {
		b[i] = byte(i + 1)
	}
	return api.Sub{Type: kind, Data: string(b)}
}

// spelled is the bytes of the extensions of l, of which each may be.
func spelled(l []api.Sub) string {
	var parts [][]byte
	for _, e := range l {
		parts = append(parts, []byte{byte(e.Type)}, []byte{byte(len(e.Data))}, []byte(e.Data))
	}
	return string(bytes.Join(parts, nil))
}

// begins is where each extension of l begins in their bytes, and where they
// end.
func begins(l []api.Sub) []int {
	places := []int{0}
	for i := range l {
		places = append(places, len(spelled(l[:i+1])))
	}
	return places
}

// someList is n extensions at most, of any types and sizes.
func someList(r *rand.Rand, n int) []api.Sub {
	var l []api.Sub
	for range r.Intn(n + 1) {
		size := r.Intn(6)
		if r.Intn(8) == 0 {
			size = r.Intn(256)
		}
		l = append(l, api.Sub{Type: r.Intn(256), Data: someBytes(r, size)})
	}
	return l
}

// someBytes are n bytes.
func someBytes(r *rand.Rand, n int) string {
	b := make([]byte, n)
	r.Read(b)
	return string(b)
}

// lists are lists of extensions that may be.
func lists() [][]api.Sub {
	all := [][]api.Sub{
		nil,
		{},
		{interval},
		{interval, interval},
		{interval, {Type: 2}},
		{{Type: 2}, interval},
		{{}},
		{{}, {}, {}},
		{sized(0, 255), sized(255, 0), sized(255, 255)},
		{sized(1, 254), sized(1, 4), sized(1, 1), sized(1, 0)},
	}
	for _, kind := range rightTypes {
		for _, size := range rightSizes {
			all = append(all, []api.Sub{sized(kind, size)}, []api.Sub{interval, sized(kind, size)}, []api.Sub{sized(kind, size), interval})
		}
	}
	for _, n := range []int{59, 60, 61, 255, 256, 300} {
		all = append(all, slices.Repeat([]api.Sub{interval}, n), slices.Repeat([]api.Sub{{}}, n), counted(n))
	}
	return all
}

// counted is n extensions that are all others, so that each tells its place.
func counted(n int) []api.Sub {
	var l []api.Sub
	for i := range n {
		l = append(l, sized((i*7+1)%256, i%256))
	}
	return l
}

// sketch is the first extensions of l, each by its Type and how many bytes its
// Data has, so that a list that is long is told in short.
func sketch(l []api.Sub) string {
	var parts []string
	for _, e := range l[:min(len(l), 5)] {
		parts = append(parts, fmt.Sprintf("%d:%d", e.Type, len(e.Data)))
	}
	return fmt.Sprintf("%d extensions (%s)", len(l), strings.Join(parts, " "))
}

// checkRight holds Right against what it should say of l.
func checkRight(t *testing.T, what string, l []api.Sub, want bool) {
	t.Helper()
	if got := Right(l); got != want {
		t.Errorf("%s: Right of %s = %t", what, sketch(l), got)
	}
}

// checkPut holds l to be right, and to have these bytes.
func checkPut(t *testing.T, l []api.Sub, want string) {
	t.Helper()
	checkRight(t, "may be", l, true)
	if got, ok := Put(l); got != want || !ok {
		t.Errorf("Put of %s = %d bytes, %.99q, %t; want %d, %.99q", sketch(l), len(got), got, ok, len(want), want)
	}
}

// checkNoPut holds l not to be right, and to have no bytes at all.
func checkNoPut(t *testing.T, what string, l []api.Sub) {
	t.Helper()
	checkRight(t, what, l, false)
	if got, ok := Put(l); got != "" || ok {
		t.Errorf("%s: Put of %s = %d bytes, %.99q, %t; want nothing", what, sketch(l), len(got), got, ok)
	}
}

// checkGet holds s to be the bytes of these extensions.
func checkGet(t *testing.T, s string, want []api.Sub) {
	t.Helper()
	l, at, err := Get(s)
	if !slices.Equal(l, want) || at != 0 || err != api.OK {
		t.Errorf("Get of %d bytes, %.99q, = %s, at %d, error %d; want %s", len(s), s, sketch(l), at, err, sketch(want))
	}
}

// checkShort holds s to be no extensions, since the one that begins at want
// isn't all there.
func checkShort(t *testing.T, s string, want int) {
	t.Helper()
	l, at, err := Get(s)
	if len(l) != 0 || at != want || err != api.ErrShort {
		t.Errorf("Get of %d bytes, %.99q, = %s, at %d, error %d; want none, at %d", len(s), s, sketch(l), at, err, want)
	}
}

func TestP13_1Example(t *testing.T) {
	const b = "\x01\x04\x00\x00\x03\xe8"
	checkPut(t, []api.Sub{interval}, b)
	checkGet(t, b, []api.Sub{interval})
	checkPut(t, []api.Sub{interval, {Type: 2}}, b+"\x02\x00")
	checkGet(t, b+"\x02\x00", []api.Sub{interval, {Type: 2}})
	checkPut(t, []api.Sub{{Type: 255, Data: "a"}, interval}, "\xff\x01a"+b)
	checkGet(t, "\xff\x01a"+b, []api.Sub{{Type: 255, Data: "a"}, interval})
}

// No extensions have no bytes, and no bytes are no extensions.
func TestP13_1None(t *testing.T) {
	checkPut(t, nil, "")
	checkPut(t, []api.Sub{}, "")
	checkPut(t, make([]api.Sub, 0, 3), "")
	checkGet(t, "", nil)
}

func TestP13_1Lists(t *testing.T) {
	for _, l := range lists() {
		checkPut(t, l, spelled(l))
		checkGet(t, spelled(l), l)
	}
}

// Each type with each size that there may be, and what stands at both of them
// in the bytes.
func TestP13_1EachTypeAndSize(t *testing.T) {
	for kind := range 256 {
		for size := range 256 {
			e := sized(kind, size)
			b := string([]byte{byte(kind), byte(size)}) + e.Data
			checkPut(t, []api.Sub{e}, b)
			checkGet(t, b, []api.Sub{e})
			if t.Failed() {
				return
			}
		}
	}
}

// Data may be any bytes, those that look like extensions too.
func TestP13_1AnyData(t *testing.T) {
	for _, fill := range fills {
		for _, size := range rightSizes {
			e := api.Sub{Type: 1, Data: long(fill, size)}
			checkPut(t, []api.Sub{e, interval, e}, spelled([]api.Sub{e, interval, e}))
			checkGet(t, spelled([]api.Sub{e, interval, e}), []api.Sub{e, interval, e})
		}
	}
	for value := range 256 {
		e := api.Sub{Type: 3, Data: string([]byte{byte(value)})}
		checkPut(t, []api.Sub{e}, "\x03\x01"+e.Data)
		checkGet(t, "\x03\x01"+e.Data, []api.Sub{e})
	}
}

// A Type is from 0 to 255, whatever its Data is.
func TestP13_1Types(t *testing.T) {
	for _, size := range rightSizes {
		for _, kind := range rightTypes {
			checkPut(t, []api.Sub{sized(kind, size)}, string([]byte{byte(kind), byte(size)})+sized(kind, size).Data)
		}
		for _, kind := range wrongTypes {
			checkNoPut(t, "Type", []api.Sub{sized(kind, size)})
		}
	}
	for shift := 8; shift < 64; shift++ {
		for _, kind := range rightTypes {
			checkNoPut(t, "Type and a bit beyond", []api.Sub{sized(kind+1<<shift, 4)})
		}
	}
}

// Data has at most 255 bytes, whatever its Type is. Bytes count, not letters.
func TestP13_1Sizes(t *testing.T) {
	for _, kind := range rightTypes {
		for _, fill := range fills {
			for _, size := range wrongSizes {
				checkNoPut(t, "Data", []api.Sub{{Type: kind, Data: long(fill, size)}})
			}
		}
	}
	letters := strings.Repeat("é", 127)
	checkPut(t, []api.Sub{{Type: 1, Data: letters + "a"}}, "\x01\xff"+letters+"a")
	checkNoPut(t, "Data of letters", []api.Sub{{Type: 1, Data: letters + "é"}})
	checkNoPut(t, "Data of letters", []api.Sub{{Type: 1, Data: strings.Repeat("é", 255)}})
}

// One that may not be, at any place, leaves no bytes at all.
func TestP13_1OneWrongAmongOthers(t *testing.T) {
	for _, n := range []int{1, 2, 3, 60, 300} {
		for at := range n {
			for _, bad := range []api.Sub{{Type: -1}, {Type: 256}, {Type: math.MaxInt, Data: "ab"}, {Type: math.MinInt}, sized(1, 256), sized(0, 512), sized(256, 256)} {
				l := slices.Repeat([]api.Sub{interval}, n)
				l[at] = bad
				checkNoPut(t, "one of them", l)
				l[n-1] = sized(-1, 3)
				checkNoPut(t, "the last one too", l)
			}
		}
	}
	for _, kind := range wrongTypes {
		for _, l := range [][]api.Sub{{sized(kind, 4), interval, interval}, {interval, sized(kind, 4), interval}, {interval, interval, sized(kind, 4)}} {
			checkNoPut(t, "Type", l)
		}
	}
	for _, size := range wrongSizes {
		for _, l := range [][]api.Sub{{sized(1, size), interval, interval}, {interval, sized(1, size), interval}, {interval, interval, sized(1, size)}} {
			checkNoPut(t, "Data", l)
		}
	}
}

// An extension that isn't all there is told by where it begins: behind a Type,
// behind a length, and within Data, at the first one and at later ones.
func TestP13_1GetShort(t *testing.T) {
	ahead := []string{"", "\x02\x00", "\x00\x00", "\x01\x04abcd", "\x02\x00\x01\x04abcd", "\x00\x01\xff\x03\x00", spelled([]api.Sub{sized(9, 255)}), spelled(counted(60)), strings.Repeat("\x07\x00", 300)}
	cuts := []string{"\x00", "\x01", "\xff", "\x01\x01", "\x01\x04", "\x01\xff", "\x00\x01", "\xff\xff", "\x01\x04a", "\x01\x04abc", "\x00\x02\x00", "\x05\xff" + long("\x00", 254), "\x05\xff" + long("\xff", 253), "\x05\x80" + long("a", 127), "\x05\x81" + long("a", 128)}
	for _, first := range ahead {
		for _, s := range cuts {
			checkShort(t, first+s, len(first))
		}
	}
}

// Each length, with one byte too few, with as many, and with one more, which is
// the next one's Type alone.
func TestP13_1GetLengths(t *testing.T) {
	for size := range 256 {
		for _, fill := range fills {
			head, data := string([]byte{9, byte(size)}), long(fill, size)
			checkGet(t, head+data, []api.Sub{{Type: 9, Data: data}})
			checkShort(t, head+data+"\x00", 2+size)
			checkGet(t, head+data+"\x00\x00", []api.Sub{{Type: 9, Data: data}, {}})
			for less := 1; less <= min(size, 3); less++ {
				checkShort(t, head+data[less:], 0)
				checkShort(t, "\x01\x01a"+head+data[less:], 3)
			}
		}
	}
}

// checkCuts holds every cut of the bytes of l to be those that are all there,
// or to tell where the one begins that isn't.
func checkCuts(t *testing.T, l []api.Sub) {
	t.Helper()
	b, places := spelled(l), begins(l)
	for n := range len(b) + 1 {
		i, whole := slices.BinarySearch(places, n)
		if whole {
			checkGet(t, b[:n], l[:i])
		} else {
			checkShort(t, b[:n], places[i-1])
		}
	}
}

func TestP13_1EveryCut(t *testing.T) {
	checkCuts(t, []api.Sub{interval})
	checkCuts(t, []api.Sub{interval, {Type: 2}, sized(0, 1), sized(255, 7), {}, sized(3, 2)})
	checkCuts(t, []api.Sub{{}, {}, interval, {}, {}})
	checkCuts(t, []api.Sub{sized(4, 255), sized(5, 0), sized(6, 254), interval})
	checkCuts(t, slices.Repeat([]api.Sub{interval}, 60))
	r := rand.New(rand.NewSource(1))
	for range 200 {
		checkCuts(t, someList(r, 8))
	}
}

// What is handed in stays as it was, its spare room too.
func TestP13_1KeepsNothing(t *testing.T) {
	for _, l := range append(lists(), []api.Sub{interval, {Type: 256}, interval}, []api.Sub{sized(1, 256), interval}) {
		room := make([]api.Sub, len(l)+4)
		for i := range room {
			room[i] = api.Sub{Type: 1000 + i, Data: "spare"}
		}
		copy(room, l)
		before := slices.Clone(room)
		for _, in := range [][]api.Sub{room[:len(l)], room[:len(l):len(l)]} {
			Right(in)
			Put(in)
		}
		if !slices.Equal(room, before) {
			t.Errorf("%s, or their spare room, were changed", sketch(l))
		}
	}
}

// What is answered is new: to change it changes no other answer, and nothing
// hangs on what was asked ahead.
func TestP13_1Again(t *testing.T) {
	const b = "\x01\x04abcd\x02\x00"
	want := []api.Sub{{Type: 1, Data: "abcd"}, {Type: 2}}
	for range 3 {
		first, _, _ := Get(b)
		second, _, _ := Get(b)
		first[0], first[1] = api.Sub{Type: 9, Data: "x"}, api.Sub{Type: -1}
		if !slices.Equal(second, want) {
			t.Errorf("Get(%q) shares a list with another answer: %+v", b, second)
		}
		checkGet(t, b, want)
		checkNoPut(t, "changed", first)
		checkPut(t, want, b)
		checkShort(t, b[:7], 6)
		checkNoPut(t, "no Type", []api.Sub{want[0], {Type: -2}})
		checkGet(t, "", nil)
		checkPut(t, nil, "")
	}
}

// checkBack holds l, whose extensions may be, to come back of its bytes.
func checkBack(t *testing.T, l []api.Sub) {
	t.Helper()
	b, ok := Put(l)
	back, at, err := Get(b)
	if !ok || at != 0 || err != api.OK || !slices.Equal(back, l) {
		t.Errorf("%s come back of %d bytes, %t, as %s, at %d, error %d", sketch(l), len(b), ok, sketch(back), at, err)
	}
}

// checkBytesBack holds s, if it is extensions, to come back of them, and if it
// is none, to be nothing at a place within it, ahead of which all of it is
// extensions.
func checkBytesBack(t *testing.T, s string) {
	t.Helper()
	l, at, err := Get(s)
	switch err {
	case api.OK:
		checkRight(t, "read", l, true)
		if back, ok := Put(l); back != s || !ok || at != 0 {
			t.Errorf("%d bytes, %.99q, come back of %s as %d, %.99q, %t, at %d", len(s), s, sketch(l), len(back), back, ok, at)
		}
	case api.ErrShort:
		if len(l) != 0 || at < 0 || at >= len(s) {
			t.Errorf("%d bytes, %.99q, are short at %d, beside %s", len(s), s, at, sketch(l))
			return
		}
		if _, _, err := Get(s[:at]); err != api.OK {
			t.Errorf("%d bytes, %.99q, are short at %d, and ahead of it too", len(s), s, at)
		}
	default:
		t.Errorf("%d bytes, %.99q, have the error %d", len(s), s, err)
	}
}

func TestP13_2ListsComeBack(t *testing.T) {
	for _, l := range lists() {
		checkBack(t, l)
		checkBytesBack(t, spelled(l))
	}
	r := rand.New(rand.NewSource(2))
	for range 5000 {
		checkBack(t, someList(r, 20))
	}
	for range 10 {
		checkBack(t, someList(r, 5000))
	}
}

// Bytes of any kind come back of what they are, or tell where they end too
// early.
func TestP13_2BytesComeBack(t *testing.T) {
	for first := range 256 {
		checkBytesBack(t, string([]byte{byte(first)}))
		for second := range 256 {
			head := string([]byte{byte(first), byte(second)})
			checkBytesBack(t, head)
			checkBytesBack(t, head+"\x01\x00\x00")
			checkBytesBack(t, "\x01\x01a"+head)
		}
	}
	r := rand.New(rand.NewSource(3))
	for range 20000 {
		checkBytesBack(t, someBytes(r, r.Intn(40)))
		checkBytesBack(t, someBytes(r, r.Intn(1000)))
		b := []byte(spelled(someList(r, 10)) + "\x00\x00")
		b[r.Intn(len(b))] = byte(r.Intn(256))
		checkBytesBack(t, string(b))
	}
}

// The bytes of two lists, one behind the other, are those of the lists one
// behind the other.
func TestP13_2ListsTogether(t *testing.T) {
	r := rand.New(rand.NewSource(4))
	for range 5000 {
		a, b := someList(r, 6), someList(r, 6)
		both := slices.Concat(a, b)
		first, _ := Put(a)
		second, _ := Put(b)
		checkPut(t, both, first+second)
		checkGet(t, first+second, both)
		if n := len(b); n > 0 {
			checkShort(t, first+second[:len(second)-1], len(first)+begins(b)[n-1])
		}
	}
}

// No two lists have the same bytes, and no two texts are the same list.
func TestP13_2EachItsOwn(t *testing.T) {
	r := rand.New(rand.NewSource(5))
	listOf := map[string][]api.Sub{}
	for range 20000 {
		l := someList(r, 3)
		b, _ := Put(l)
		if other, is := listOf[b]; is && !slices.Equal(other, l) {
			t.Errorf("%+v and %+v both have the bytes %q", other, l, b)
		}
		listOf[b] = l
	}
	// Data that holds what another extension would be isn't that one.
	for _, p := range [][2][]api.Sub{
		{{{Type: 1, Data: "\x02\x00"}}, {{Type: 1}, {Type: 2}}},
		{{{Type: 1, Data: "\x02\x00"}}, {{Type: 1, Data: "\x02"}, {}}},
		{{{}}, {{}, {}}},
		{nil, {{}}},
	} {
		a, _ := Put(p[0])
		b, _ := Put(p[1])
		if a == b {
			t.Errorf("%+v and %+v both have the bytes %q", p[0], p[1], a)
		}
	}
}
