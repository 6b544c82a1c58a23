package rreq

import (
	"encoding/binary"
	"fmt"
	"math"
	"math/rand"
	"reflect"
	"slices"
	"strings"
	"testing"

	"roadbook/api"
)

// headEnd is where the extensions begin.
const headEnd = 24

// most is the greatest number of four bytes.
const most = 1<<32 - 1

// numbers tells of each field that is a number which ones it may be, and which
// ones not; the lowest bits of the wrong ones alone would do.
var numbers = map[string]struct{ right, wrong []int }{
	"Flags": {
		[]int{0, 1, 2, 3, 4, 7, 8, 15, 16, 17, 30, 31},
		[]int{-1, 32, 33, 48, 63, 64, 128, 248, 255, 256, 257, 1 << 16, 1 << 31, 1 << 32, 1<<32 + 1},
	},
	"Hops": {
		[]int{0, 1, 2, 31, 32, 127, 128, 254, 255},
		[]int{-1, 256, 257, 258, 511, 512, 1 << 16, 1 << 31, 1 << 32, 1<<32 + 1},
	},
	"Nonce": {rightWords, wrongWords},
	"Seq":   {rightWords, wrongWords},
	"Seq2":  {rightWords, wrongWords},
}

var (
	rightWords = []int{0, 1, 255, 256, 65535, 65536, 1<<24 - 1, 1 << 24, 0x01020304, 1<<31 - 1, 1 << 31, 4294967294, 4294967295}
	wrongWords = []int{-1, -2, 4294967296, 4294967297, 1<<33 - 1, 1 << 33, 1 << 40, 1 << 56}
)

// ends are numbers that no field may be: those at the ends of their types.
var ends = []int{math.MaxInt, math.MaxInt - 1, 1 << 62, math.MinInt, math.MinInt + 1, -1 << 62, -1 << 32, -1<<31 - 1, -1 << 31, -65536, -256, -255, -32, -31}

// ownFields are the fields of a request, and its Kind.
var ownFields = strings.Fields("Kind Flags Hops Nonce Addr Seq Orig Seq2 Subs")

// gratuitous is a request whose fields are all others, without extensions.
func gratuitous() api.Msg {
	return api.Msg{Kind: api.Rreq, Flags: 21, Hops: 200, Nonce: 0x01020304, Addr: "\x0a\x01\x02\x03", Seq: 0xa1a2a3a4, Orig: "\xc0\xa8\x00\x09", Seq2: 0xf1f2f3f4}
}

// least is the request whose numbers are all 0, and greatest the one whose
// bytes are all 255, but for those that can't be.
func least() api.Msg {
	return api.Msg{Kind: api.Rreq, Addr: "\x00\x00\x00\x00", Orig: "\x00\x00\x00\x00"}
}

func greatest() api.Msg {
	return api.Msg{Kind: api.Rreq, Flags: 31, Hops: 255, Nonce: most, Addr: "\xff\xff\xff\xff", Seq: most, Orig: "\xff\xff\xff\xff", Seq2: most}
}

// sized is the extension of that type whose Data has n bytes, each another than
// the one next to it.
func sized(kind, n int) api.Sub {
	b := make([]byte, n)
	for i := range b {
		b[i] = byte(i + 1)
	}
	return api.Sub{Type: kind, Data: string(b)}
}

// lists are lists of extensions that may be.
func lists() [][]api.Sub {
	return [][]api.Sub{
		nil,
		{},
		{{}},
		{sized(1, 4)},
		{sized(1, 0)},
		{sized(255, 255)},
		{sized(0, 255), sized(9, 0)},
		{sized(1, 4), sized(2, 0), sized(0, 1), sized(255, 7)},
		{{Type: 1, Data: "\x01\x00"}, {Type: 1, Data: "\xff\xff\xff"}},
		{sized(3, 254), sized(3, 255), sized(3, 1)},
		slices.Repeat([]api.Sub{sized(1, 4)}, 60),
		slices.Repeat([]api.Sub{{}}, 61),
		slices.Repeat([]api.Sub{sized(200, 3), sized(7, 0)}, 150),
	}
}

// requests are requests that may be: the three above, each with each list.
func requests() []api.Msg {
	var l []api.Msg
	for _, m := range []api.Msg{gratuitous(), least(), greatest()} {
		for _, subs := range lists() {
			m.Subs = subs
			l = append(l, m)
		}
	}
	return l
}

// spelledHead is the bytes of m ahead of its extensions, laid by means of
// their own.
func spelledHead(m api.Msg) string {
	b := []byte{1, byte(m.Flags * 8), 0, byte(m.Hops)}
	b = binary.BigEndian.AppendUint32(b, uint32(m.Nonce))
	b = append(b, m.Addr...)
	b = binary.BigEndian.AppendUint32(b, uint32(m.Seq))
	b = append(b, m.Orig...)
	return string(binary.BigEndian.AppendUint32(b, uint32(m.Seq2)))
}

// spelledSubs is the bytes of the extensions of l.
func spelledSubs(l []api.Sub) string {
	var b []byte
	for _, e := range l {
		b = append(b, byte(e.Type), byte(len(e.Data)))
		b = append(b, e.Data...)
	}
	return string(b)
}

// spelled is the bytes of m, which may be.
func spelled(m api.Msg) string { return spelledHead(m) + spelledSubs(m.Subs) }

// with is m with that value in the field of that name.
func with(m api.Msg, name string, value any) api.Msg {
	reflect.ValueOf(&m).Elem().FieldByName(name).Set(reflect.ValueOf(value))
	return m
}

// same tells whether a and b are the same in all fields, where a list that is
// nil is the same as an empty one.
func same(a, b api.Msg) bool {
	alike := slices.Equal(a.Subs, b.Subs) && slices.Equal(a.List, b.List)
	a.Subs, b.Subs, a.List, b.List = nil, nil, nil, nil
	return alike && reflect.DeepEqual(a, b)
}

// sketch is m, with its first extensions alone, so that a long one is told in
// short.
func sketch(m api.Msg) string {
	n := len(m.Subs)
	m.Subs = m.Subs[:min(n, 4)]
	return fmt.Sprintf("%.600s, of %d Subs", fmt.Sprintf("%#v", m), n)
}

// checkPut holds m to be right, to have these bytes, and to be read of them.
func checkPut(t *testing.T, m api.Msg, want string) {
	t.Helper()
	if !Right(m) {
		t.Errorf("Right of %s = false", sketch(m))
	}
	if got, ok := Put(m); got != want || !ok {
		t.Errorf("Put of %s = %.99q, %t; want %.99q", sketch(m), got, ok, want)
	}
	checkGet(t, want, m)
}

// checkNoPut holds m not to be right, and to have no bytes at all.
func checkNoPut(t *testing.T, what string, m api.Msg) {
	t.Helper()
	if Right(m) {
		t.Errorf("%s: Right of %s = true", what, sketch(m))
	}
	if got, ok := Put(m); got != "" || ok {
		t.Errorf("%s: Put of %s = %.99q, %t; want nothing", what, sketch(m), got, ok)
	}
}

// checkGet holds b to be the bytes of that request.
func checkGet(t *testing.T, b string, want api.Msg) {
	t.Helper()
	m, at, err := Get(b)
	if !same(m, want) || at != 0 || err != api.OK {
		t.Errorf("Get of %d bytes, %.99q, = %s, at %d, error %d; want %s", len(b), b, sketch(m), at, err, sketch(want))
	}
}

// checkError holds b to be no request, by that error at that place.
func checkError(t *testing.T, b string, wantAt int, want api.Errno) {
	t.Helper()
	m, at, err := Get(b)
	if !same(m, api.Msg{}) || at != wantAt || err != want {
		t.Errorf("Get of %d bytes, %.99q, = %s, at %d, error %d; want nothing, at %d, error %d", len(b), b, sketch(m), at, err, wantAt, want)
	}
}

func TestP14_1Example(t *testing.T) {
	m := api.Msg{Kind: api.Rreq, Flags: 16, Hops: 5, Nonce: 7, Addr: "abcd", Seq: 8, Orig: "efgh", Seq2: 9}
	const b = "\x01\x80\x00\x05\x00\x00\x00\x07abcd\x00\x00\x00\x08efgh\x00\x00\x00\x09"
	checkPut(t, m, b)
	m.Subs = []api.Sub{{Type: 1, Data: "\x00\x00\x03\xe8"}, {Type: 2}}
	checkPut(t, m, b+"\x01\x04\x00\x00\x03\xe8\x02\x00")
	checkPut(t, gratuitous(), "\x01\xa8\x00\xc8\x01\x02\x03\x04\x0a\x01\x02\x03\xa1\xa2\xa3\xa4\xc0\xa8\x00\x09\xf1\xf2\xf3\xf4")
	checkPut(t, least(), "\x01"+strings.Repeat("\x00", 23))
	checkPut(t, greatest(), "\x01\xf8\x00"+strings.Repeat("\xff", 21))
}

func TestP14_1Requests(t *testing.T) {
	for _, m := range requests() {
		checkPut(t, m, spelled(m))
	}
}

// Each number within its range and beyond it, whatever the other fields are.
func TestP14_1Numbers(t *testing.T) {
	for _, m := range requests() {
		for name, n := range numbers {
			for _, v := range n.right {
				checkPut(t, with(m, name, v), spelled(with(m, name, v)))
			}
			for _, v := range slices.Concat(n.wrong, ends) {
				checkNoPut(t, name, with(m, name, v))
			}
		}
	}
}

// A bit beyond those that there is room for makes a number wrong, though those
// within would do.
func TestP14_1BitsBeyond(t *testing.T) {
	for name, room := range map[string]int{"Flags": 5, "Hops": 8, "Nonce": 32, "Seq": 32, "Seq2": 32} {
		for bit := range 64 {
			for _, low := range numbers[name].right {
				v := low&^(1<<bit) | 1<<bit
				if m := with(gratuitous(), name, v); bit < room {
					checkPut(t, m, spelled(m))
				} else {
					checkNoPut(t, name, m)
				}
			}
		}
	}
}

// Flags stand in the highest five bits of the second byte, all of them.
func TestP14_1EachFlags(t *testing.T) {
	b := spelled(gratuitous())
	for flags := range 32 {
		checkPut(t, with(gratuitous(), "Flags", flags), b[:1]+string([]byte{byte(flags * 8)})+b[2:])
	}
}

// Each byte behind the third one is read and written at its own place, whatever
// it holds.
func TestP14_1EachByte(t *testing.T) {
	field := func(b []byte) int { return int(binary.BigEndian.Uint32(b)) }
	for at := 3; at < headEnd; at++ {
		for v := range 256 {
			b := []byte(spelled(gratuitous()))
			b[at] = byte(v)
			checkPut(t, api.Msg{
				Kind: api.Rreq, Flags: 21, Hops: int(b[3]), Nonce: field(b[4:]), Addr: string(b[8:12]),
				Seq: field(b[12:]), Orig: string(b[16:20]), Seq2: field(b[20:]),
			}, string(b))
		}
	}
}

func TestP14_1Addresses(t *testing.T) {
	wrong := []int{0, 1, 2, 3, 5, 6, 7, 8, 12, 15, 16, 17, 20, 256, 260, 65540}
	for _, m := range requests() {
		for _, fill := range []string{"\x00", "\x01", "a", "\x80", "\xff"} {
			for _, name := range []string{"Addr", "Orig"} {
				v := with(m, name, strings.Repeat(fill, 4))
				checkPut(t, v, spelled(v))
				for _, size := range wrong {
					checkNoPut(t, name, with(m, name, strings.Repeat(fill, size)))
				}
			}
		}
	}
	// Bytes count, not letters, and one that is too short isn't made up for by
	// another that is too long.
	checkNoPut(t, "letters", with(gratuitous(), "Addr", "éééé"))
	checkNoPut(t, "letters", with(gratuitous(), "Orig", "éééé"))
	v := with(gratuitous(), "Addr", "éé")
	checkPut(t, v, spelled(v))
	for n := range 9 {
		if n != 4 {
			checkNoPut(t, "both", with(with(gratuitous(), "Addr", "abcdefgh"[:n]), "Orig", "abcdefgh"[n:]))
		}
	}
}

// Another Kind is none of this layer, though all fields would do; some of them
// are bare as another kind too.
func TestP14_1Kinds(t *testing.T) {
	kinds := []int{0, -1, -2, -3, 15, 16, 255, 256, 256 + api.Rreq, 1<<32 + api.Rreq, math.MaxInt, math.MinInt, math.MinInt + api.Rreq}
	for kind := api.RipRoute; kind <= api.LastOfKind; kind++ {
		kinds = append(kinds, kind)
	}
	for _, kind := range kinds {
		if kind == api.Rreq {
			continue
		}
		for _, m := range requests() {
			checkNoPut(t, "Kind", with(m, "Kind", kind))
		}
		checkNoPut(t, "Kind alone", api.Msg{Kind: kind})
		checkNoPut(t, "Kind and Subs", api.Msg{Kind: kind, Subs: []api.Sub{sized(1, 4)}})
	}
	checkNoPut(t, "nothing", api.Msg{})
	checkNoPut(t, "no address", api.Msg{Kind: api.Rreq})
}

// A field that a request doesn't have may not be set, to whatever it is; that
// which isn't asked for here is a list that holds nothing.
func TestP14_1OtherFields(t *testing.T) {
	others := 0
	for i := range reflect.TypeFor[api.Msg]().NumField() {
		name := reflect.TypeFor[api.Msg]().Field(i).Name
		if slices.Contains(ownFields, name) {
			continue
		}
		others++
		for _, m := range requests() {
			for _, v := range othersOf(t, name) {
				checkNoPut(t, name, with(m, name, v))
			}
		}
	}
	if want := reflect.TypeFor[api.Msg]().NumField() - len(ownFields); others != want {
		t.Errorf("%d other fields, want %d", others, want)
	}
	m := with(gratuitous(), "List", []api.Dest{})
	checkPut(t, m, spelled(m))
}

// othersOf are values of the field of that name that are not 0, or empty.
func othersOf(t *testing.T, name string) []any {
	t.Helper()
	switch f, _ := reflect.TypeFor[api.Msg]().FieldByName(name); f.Type {
	case reflect.TypeFor[int]():
		return []any{1, -1, 4, 255, 256, 1 << 32, math.MaxInt, math.MinInt}
	case reflect.TypeFor[string]():
		return []any{"\x00", "a", "\x00\x00\x00\x00", "abcd", strings.Repeat("\x00", 16)}
	case reflect.TypeFor[[]api.Dest]():
		return []any{[]api.Dest{{}}, []api.Dest{{Addr: "abcd", Seq: 1}, {}}}
	}
	t.Fatalf("no values for the field %s", name)
	return nil
}

// One extension that may not be, at any place, leaves no bytes at all.
func TestP14_1WrongSubs(t *testing.T) {
	bad := []api.Sub{{Type: -1}, {Type: 256}, {Type: 257, Data: "ab"}, {Type: 1<<32 + 1}, {Type: math.MaxInt}, {Type: math.MinInt}, sized(1, 256), sized(0, 257), sized(255, 512), sized(256, 256)}
	for _, n := range []int{1, 2, 3, 60, 61, 200} {
		for _, at := range []int{0, n / 2, n - 1} {
			for _, e := range bad {
				l := slices.Repeat([]api.Sub{sized(1, 4)}, n)
				l[at] = e
				checkNoPut(t, "Subs", with(gratuitous(), "Subs", l))
				checkNoPut(t, "Subs", with(least(), "Subs", l))
			}
		}
	}
}

// Too few bytes are told ahead of all else, at their end.
func TestP14_1GetShort(t *testing.T) {
	for _, b := range []string{
		spelled(gratuitous()), spelled(least()), spelled(greatest()),
		"\x01" + strings.Repeat("\xff", 23), "\x01\x01" + strings.Repeat("\x00", 22), "\x01\x00\x80" + strings.Repeat("a", 21), strings.Repeat("\x01", 24),
	} {
		for n := range headEnd {
			checkError(t, b[:n], n, api.ErrShort)
		}
	}
}

// Bytes of a head alone, and of one and two more.
func TestP14_1GetFirstSizes(t *testing.T) {
	for _, m := range []api.Msg{gratuitous(), least(), greatest()} {
		b := spelled(m)
		checkGet(t, b, m)
		for v := range 256 {
			kind := string([]byte{byte(v)})
			checkError(t, b+kind, headEnd, api.ErrShort)
			checkGet(t, b+kind+"\x00", with(m, "Subs", []api.Sub{{Type: v}}))
			for _, size := range []string{"\x01", "\x02", "\x80", "\xff"} {
				checkError(t, b+kind+size, headEnd, api.ErrShort)
			}
		}
	}
}

// Each bit that must be 0 is told alone, at the second byte, and ahead of an
// extension that isn't all there.
func TestP14_1GetZero(t *testing.T) {
	behind := []string{"", "\x01\x00", "\x01", "\x01\x04", "\x01\x04abc", "\x02\x00\x01\xff", spelledSubs([]api.Sub{sized(1, 255)})}
	for _, m := range []api.Msg{gratuitous(), least(), greatest()} {
		for _, rest := range behind {
			for second := range 256 {
				b := []byte(spelled(m) + rest)
				b[1] = byte(second)
				if second%8 != 0 {
					checkError(t, string(b), 1, api.ErrZero)
				}
			}
			for third := 1; third < 256; third++ {
				b := []byte(spelled(m) + rest)
				b[2] = byte(third)
				checkError(t, string(b), 1, api.ErrZero)
				b[1] |= 5
				checkError(t, string(b), 1, api.ErrZero)
			}
		}
	}
}

// No other bit must be 0.
func TestP14_1GetOtherBits(t *testing.T) {
	for bit := 8; bit < 8*headEnd; bit++ {
		b := []byte(spelled(least()))
		b[bit/8] |= 0x80 >> (bit % 8)
		if bit >= 13 && bit < 24 {
			checkError(t, string(b), 1, api.ErrZero)
		} else if m, at, err := Get(string(b)); at != 0 || err != api.OK || spelled(m) != string(b) {
			t.Errorf("the bit %d: %s, at %d, error %d", bit, sketch(m), at, err)
		}
	}
}

// An extension that isn't all there is told by where it begins in all bytes.
func TestP14_1GetShortExtension(t *testing.T) {
	ahead := []string{"", "\x02\x00", "\x00\x00", "\x01\x04abcd", "\x02\x00\x01\x04abcd", spelledSubs([]api.Sub{sized(9, 255)}), strings.Repeat("\x07\x01a", 61)}
	cuts := []string{"\x00", "\x01", "\xff", "\x01\x01", "\x01\xff", "\x00\x01", "\x01\x04abc", "\x05\xff" + strings.Repeat("\x00", 254), "\x05\x80" + strings.Repeat("a", 127)}
	for _, m := range []api.Msg{gratuitous(), least(), greatest()} {
		for _, first := range ahead {
			for _, cut := range cuts {
				checkError(t, spelled(m)+first+cut, headEnd+len(first), api.ErrShort)
			}
		}
	}
}

// checkCuts holds every cut of the bytes of m to be the request with those
// extensions that are all there, or to tell where the one begins that isn't.
func checkCuts(t *testing.T, m api.Msg) {
	t.Helper()
	b := spelled(m)
	places := []int{headEnd}
	for i := range m.Subs {
		places = append(places, headEnd+len(spelledSubs(m.Subs[:i+1])))
	}
	for n := range len(b) + 1 {
		i, whole := slices.BinarySearch(places, n)
		switch {
		case n < headEnd:
			checkError(t, b[:n], n, api.ErrShort)
		case whole:
			checkGet(t, b[:n], with(m, "Subs", m.Subs[:i]))
		default:
			checkError(t, b[:n], places[i-1], api.ErrShort)
		}
	}
}

func TestP14_1EveryCut(t *testing.T) {
	for _, m := range requests() {
		checkCuts(t, m)
	}
	r := rand.New(rand.NewSource(1))
	for range 200 {
		checkCuts(t, someRequest(r))
	}
}

// What is handed in stays as it was, its spare room too, and what is answered
// hangs on nothing that was asked ahead.
func TestP14_1KeepsNothing(t *testing.T) {
	for _, m := range append(requests(), with(gratuitous(), "Subs", []api.Sub{sized(1, 4), {Type: 256}}), with(gratuitous(), "Hops", 256)) {
		room := make([]api.Sub, len(m.Subs)+4)
		for i := range room {
			room[i] = api.Sub{Type: 1000 + i, Data: "spare"}
		}
		copy(room, m.Subs)
		before := slices.Clone(room)
		for _, in := range [][]api.Sub{room[:len(m.Subs)], room[:len(m.Subs):len(m.Subs)]} {
			Right(with(m, "Subs", in))
			Put(with(m, "Subs", in))
		}
		if !slices.Equal(room, before) {
			t.Errorf("the Subs of %s, or their spare room, were changed", sketch(m))
		}
	}
}

func TestP14_1Again(t *testing.T) {
	want := with(gratuitous(), "Subs", []api.Sub{{Type: 1, Data: "abcd"}, {Type: 2}})
	b := spelled(want)
	for range 3 {
		one, _, _ := Get(b)
		two, _, _ := Get(b)
		one.Subs[0], one.Subs[1] = api.Sub{Type: 9, Data: "x"}, api.Sub{Type: -1}
		if !same(two, want) {
			t.Errorf("Get shares a list with another answer: %s", sketch(two))
		}
		checkNoPut(t, "changed", one)
		checkPut(t, want, b)
		checkError(t, b[:len(b)-1], len(b)-2, api.ErrShort)
		checkPut(t, least(), spelled(least()))
	}
}

// someRequest is any request that may be.
func someRequest(r *rand.Rand) api.Msg {
	word := func() int { return rightWords[r.Intn(len(rightWords))] }
	if r.Intn(2) == 0 {
		word = func() int { return int(r.Uint32()) }
	}
	m := api.Msg{Kind: api.Rreq, Flags: r.Intn(32), Hops: r.Intn(256), Nonce: word(), Addr: someBytes(r, 4), Seq: word(), Orig: someBytes(r, 4), Seq2: word()}
	for range r.Intn(6) {
		size := r.Intn(6)
		if r.Intn(8) == 0 {
			size = r.Intn(256)
		}
		m.Subs = append(m.Subs, api.Sub{Type: r.Intn(256), Data: someBytes(r, size)})
	}
	return m
}

// someBytes are n bytes.
func someBytes(r *rand.Rand, n int) string {
	b := make([]byte, n)
	r.Read(b)
	return string(b)
}

// checkBytesBack holds b, if it is a request, to come back of it, and if not,
// to be nothing, by the first error and where it is.
func checkBytesBack(t *testing.T, b string) {
	t.Helper()
	if len(b) < headEnd {
		checkError(t, b, len(b), api.ErrShort)
		return
	}
	if b[1]%8 != 0 || b[2] != 0 {
		checkError(t, b, 1, api.ErrZero)
		return
	}
	for at := headEnd; at < len(b); at += 2 + int(b[at+1]) {
		if at+2 > len(b) || at+2+int(b[at+1]) > len(b) {
			checkError(t, b, at, api.ErrShort)
			return
		}
	}
	m, at, err := Get(b)
	if back, ok := Put(m); !Right(m) || !ok || back != b || at != 0 || err != api.OK {
		t.Errorf("%d bytes, %.99q, come back of %s as %.99q, %t, at %d, error %d", len(b), b, sketch(m), back, ok, at, err)
	}
}

func TestP14_2RequestsComeBack(t *testing.T) {
	r := rand.New(rand.NewSource(2))
	for range 20000 {
		m := someRequest(r)
		b, ok := Put(m)
		back, at, err := Get(b)
		if !ok || at != 0 || err != api.OK || !same(back, m) {
			t.Errorf("%s comes back of %.99q, %t, as %s, at %d, error %d", sketch(m), b, ok, sketch(back), at, err)
		}
		checkBytesBack(t, b)
	}
}

// Bytes of any kind that begin with 1 come back of what they are, or tell the
// first error.
func TestP14_2BytesComeBack(t *testing.T) {
	for _, m := range requests() {
		checkBytesBack(t, spelled(m))
	}
	r := rand.New(rand.NewSource(3))
	for range 20000 {
		checkBytesBack(t, "\x01"+someBytes(r, r.Intn(60)))
		b := []byte("\x01" + someBytes(r, 23+r.Intn(300)))
		b[1], b[2] = b[1]&^7, 0
		checkBytesBack(t, string(b))
		b = []byte(spelled(someRequest(r)) + "\x00\x00"[:r.Intn(3)])
		b[1+r.Intn(len(b)-1)] = byte(r.Intn(256))
		checkBytesBack(t, string(b))
	}
}

// A request that differs in one field alone has other bytes.
func TestP14_2EachItsOwn(t *testing.T) {
	for _, m := range requests() {
		bytesOf := map[string]string{}
		note := func(what string, v api.Msg) {
			b, _ := Put(v)
			if other, is := bytesOf[b]; is && !same(v, m) {
				t.Errorf("%s and %s both have the bytes %.99q", other, what, b)
			}
			bytesOf[b] = what
		}
		note("as it was", m)
		for name, n := range numbers {
			for _, v := range n.right {
				note(fmt.Sprint(name, v), with(m, name, v))
			}
		}
		for _, name := range []string{"Addr", "Orig"} {
			for _, v := range []string{"abcd", "dcba", "abce"} {
				note(name+v, with(m, name, v))
			}
		}
		for i, subs := range lists()[1:] {
			if !slices.Equal(subs, m.Subs) {
				note(fmt.Sprint("Subs", i), with(m, "Subs", subs))
			}
		}
	}
}
