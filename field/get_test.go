package field

import (
	"math"
	"math/rand"
	"slices"
	"strings"
	"testing"

	"roadbook/api"
)

// kinds are the types of the TLVs.
var kinds = []int{2, 3, 4, 5}

// behind are bytes behind the fields, and what they make of a message without
// an error: nothing, if it doesn't count.
var behind = []struct {
	bytes  string
	subs   []api.Sub
	counts bool
}{
	{"", nil, true},
	{"\x00", nil, true},
	{"\x00\x00\x00", nil, true},
	{"\x01\x00", nil, true},
	{"\x01\x03\x80\x00a", nil, true},
	{strings.Repeat("\x00", 249), nil, true},
	{"\x01\xf0" + strings.Repeat("\xff", 240), nil, true},
	{"\x02\x00", []api.Sub{{Type: 2}}, true},
	{"\x7f\x01a", []api.Sub{{Type: 127, Data: "a"}}, true},
	{"\x00\x03\x02\x80\x00\x01\x00\x02\x00\x00", []api.Sub{{Type: 3, Data: "\x80\x00"}, {Type: 2}}, true},
	{"\x09\xc6" + strings.Repeat("b", 198), []api.Sub{{Type: 9, Data: strings.Repeat("b", 198)}}, true},
	{"\x80\x00", nil, false},
	{"\xff\x01a", nil, false},
	{"\x02\x00\x81\x00\x03\x00", nil, false},
	{"\x00\x80\x00\x00", nil, false},
	{"\x09\xc6" + strings.Repeat("b", 198) + "\x80\x01a", nil, false},
	{"\x80\xf0" + strings.Repeat("\x00", 240), nil, false},
}

// wrongBehind are bytes behind the fields that have an error.
var wrongBehind = []struct {
	bytes string
	err   api.Errno
}{
	{"\x01", api.ErrShort},
	{"\x02", api.ErrShort},
	{"\x80", api.ErrShort},
	{"\xff", api.ErrShort},
	{"\x02\x01", api.ErrShort},
	{"\x01\x01", api.ErrShort},
	{"\x80\x02a", api.ErrShort},
	{"\x00\x02\x00\x05", api.ErrShort},
	{"\x80\x00\x05", api.ErrShort},
	{"\x05\x04abc", api.ErrShort},
	{"\x09\xc7" + strings.Repeat("b", 198), api.ErrShort},
	{"\x09\xc7" + strings.Repeat("b", 199) + "\x02", api.ErrShort},
	{"\x09\xc7" + strings.Repeat("b", 199), api.ErrLong},
	{"\x09\xc6" + strings.Repeat("b", 198) + "\x02\x00", api.ErrLong},
	{"\x80\x00\x09\xc7" + strings.Repeat("b", 199), api.ErrLong},
	{"\x09\xc7" + strings.Repeat("b", 199) + "\x80\x00", api.ErrLong},
	{strings.Repeat("\x40\x00", 101), api.ErrLong},
}

func TestP20_1GetExamples(t *testing.T) {
	checkGet(t, 4, "\x80\x00\x00\x01\x00\x64", api.Msg{Kind: api.Hello, Flags: 1, Seq: 1, Interval: 100})
	checkGet(t, 4, "\x7f\xff\x00\x01\x00\x64\x00", api.Msg{Kind: api.Hello, Seq: 1, Interval: 100})
	checkGet(t, 2, "\x09\x09\x00\x07\x00\x08\x02\x01a", api.Msg{Kind: api.AckReq, Nonce: 7, Interval: 8, Subs: []api.Sub{{Type: 2, Data: "a"}}})
	checkGet(t, 3, "\x00\x07", api.Msg{Kind: api.Ack, Nonce: 7})
	checkGet(t, 5, "\x00\x09\x01\x00\x00\x05", api.Msg{Kind: api.Ihu, Cost: 256, Interval: 5})
	checkGet(t, 5, "\x01\x09\x01\x00\x00\x05abcd", api.Msg{Kind: api.Ihu, Ae: 1, Cost: 256, Interval: 5, Addr: "abcd"})
	checkGet(t, 5, "\x02\x09\x01\x00\x00\x05abcdefghijklmnop", api.Msg{Kind: api.Ihu, Ae: 2, Cost: 256, Interval: 5, Addr: "abcdefghijklmnop"})
	checkGet(t, 5, "\x03\x09\x01\x00\x00\x05abcdefgh", api.Msg{Kind: api.Ihu, Ae: 3, Cost: 256, Interval: 5, Addr: link})
	checkNothing(t, 5, "\x04\x00\x00\x00\x00\x00")
	checkNothing(t, 3, "\x00\x07\x80\x00")
	checkError(t, 3, "\x00", api.ErrShort)
	checkError(t, 3, "\x00\x07\x05", api.ErrShort)
	checkError(t, 3, "\x00\x07\x05\xc7"+strings.Repeat("a", 199), api.ErrLong)
}

// Fields that are all there, and each count of bytes less.
func TestP20_1GetShort(t *testing.T) {
	for _, m := range slices.Concat(plain(), least(), greatest()) {
		typ, data := types[m.Kind], spelledFields(m)
		checkGet(t, typ, data, m)
		for n := range data {
			checkError(t, typ, data[:n], api.ErrShort)
		}
	}
	for _, typ := range kinds {
		checkError(t, typ, "", api.ErrShort)
	}
}

// All counts of bytes about those of the fields, of all bytes alike: an Ihu
// whose encoding there isn't needs six.
func TestP20_1GetSizes(t *testing.T) {
	for _, typ := range kinds {
		for fill := range 256 {
			for n := range 30 {
				checkTlv(t, typ, strings.Repeat(string([]byte{byte(fill)}), n))
			}
		}
	}
	for n := range 6 {
		for _, ae := range []string{"\x00", "\x01", "\x02", "\x03", "\x04", "\x05", "\x80", "\xff"} {
			checkError(t, 5, (ae + "\x00\x00\x00\x00\x00")[:n], api.ErrShort)
		}
	}
}

// An Ihu whose encoding there isn't says nothing, whatever stands behind its
// first six bytes.
func TestP20_1GetOtherEncodings(t *testing.T) {
	for ae := 4; ae < 256; ae++ {
		head := string([]byte{byte(ae)}) + "\x00\x01\x02\x03\x04"
		for n := range 6 {
			checkError(t, 5, head[:n], api.ErrShort)
		}
		for n := range 20 {
			checkNothing(t, 5, head+strings.Repeat("a", n))
		}
		for _, b := range behind {
			checkNothing(t, 5, head+b.bytes)
			checkNothing(t, 5, head+short+b.bytes)
		}
		for _, b := range wrongBehind {
			checkNothing(t, 5, head+b.bytes)
			checkNothing(t, 5, head+short+short+b.bytes)
		}
	}
}

// Each encoding with as many bytes of an address as there are of it, and fewer.
func TestP20_1GetEncodings(t *testing.T) {
	const bytes = "ABCDEFGHIJKLMNOP"
	for ae, size := range []int{0, 4, 16, 8} {
		head := string([]byte{byte(ae)}) + "\xff\x01\x02\x03\x04"
		want := api.Msg{Kind: api.Ihu, Ae: ae, Cost: 0x0102, Interval: 0x0304, Addr: bytes[:size]}
		if ae == 3 {
			want.Addr = link[:8] + bytes[:8]
		}
		checkGet(t, 5, head+bytes[:size], want)
		for n := range size {
			checkError(t, 5, head+bytes[:n], api.ErrShort)
		}
		checkError(t, 5, head+bytes[:size]+"\x02", api.ErrShort)
		checkGet(t, 5, head+bytes[:size]+"\x00", want)
	}
	for ae, all := range addresses {
		for _, a := range all {
			m := api.Msg{Kind: api.Ihu, Ae: ae, Cost: 1, Interval: 2, Addr: a}
			checkGet(t, 5, spelledFields(m), m)
		}
	}
}

// Bytes and bits without a name aren't looked at, and come back as 0.
func TestP20_1GetWithoutName(t *testing.T) {
	for _, m := range messages() {
		data := spelledData(m)
		for v := range 256 {
			b := []byte(data)
			switch m.Kind {
			case api.AckReq:
				b[0] = byte(v)
				checkGet(t, 2, string(b), m)
				b[1] = byte(255 - v)
				checkGet(t, 2, string(b), m)
				b[0] = 0
				checkGet(t, 2, string(b), m)
			case api.Hello:
				b[1] = byte(v)
				checkGet(t, 4, string(b), m)
				b[0] = byte(v)
				checkGet(t, 4, string(b), with(m, "Flags", v/128))
				b[1] = 0
				checkGet(t, 4, string(b), with(m, "Flags", v/128))
			case api.Ihu:
				b[1] = byte(v)
				checkGet(t, 5, string(b), m)
			}
			if back, ok := Put(m); !ok || back[2:] != data {
				t.Errorf("%s comes back as %.99q, %t", sketch(m), back, ok)
			}
		}
	}
}

// Of a Hello's flags the highest bit alone counts, whichever others there are.
func TestP20_1GetFlags(t *testing.T) {
	for flags := range 65536 {
		checkGet(t, 4, spelledNum(flags)+"\x00\x01\x00\x02", api.Msg{Kind: api.Hello, Flags: flags / 32768, Seq: 1, Interval: 2})
	}
}

// Each bit of the fields is read at its own place.
func TestP20_1GetEachBit(t *testing.T) {
	for _, m := range slices.Concat(plain(), least(), greatest()) {
		for _, subs := range lists() {
			typ, data := types[m.Kind], spelledData(with(m, "Subs", subs))
			for bit := range 8 * len(spelledFields(m)) {
				b := []byte(data)
				b[bit/8] ^= 0x80 >> (bit % 8)
				checkTlv(t, typ, string(b))
			}
		}
	}
}

// What stands behind the fields: nothing, padding, what is kept, and what must
// be known.
func TestP20_1GetSubs(t *testing.T) {
	for _, m := range slices.Concat(plain(), least(), greatest()) {
		typ, data := types[m.Kind], spelledFields(m)
		for _, b := range behind {
			if b.counts {
				checkGet(t, typ, data+b.bytes, with(m, "Subs", b.subs))
			} else {
				checkNothing(t, typ, data+b.bytes)
			}
		}
		for _, subs := range lists() {
			checkGet(t, typ, data+spelledSubs(subs), with(m, "Subs", subs))
		}
		for kind := range 256 {
			switch s := spelledSubs([]api.Sub{{Type: kind}}); {
			case kind < 2:
				checkGet(t, typ, data+s, m)
			case kind > 127:
				checkNothing(t, typ, data+s)
			default:
				checkGet(t, typ, data+s, with(m, "Subs", []api.Sub{{Type: kind}}))
			}
		}
	}
}

// Sub-TLVs that aren't all there, or are too long, are told as they are; and so
// they are beside one that must be known.
func TestP20_1GetWrongSubs(t *testing.T) {
	for _, m := range slices.Concat(plain(), least(), greatest()) {
		typ, data := types[m.Kind], spelledFields(m)
		for _, b := range wrongBehind {
			checkError(t, typ, data+b.bytes, b.err)
			checkError(t, typ, data+"\x80\x00"+b.bytes, b.err)
			checkError(t, typ, data+"\x00\x01\x00"+b.bytes, b.err)
		}
		for _, subs := range tooLong() {
			checkError(t, typ, data+spelledSubs(subs), api.ErrLong)
			checkError(t, typ, data+spelledSubs(subs)+"\x02", api.ErrShort)
			checkError(t, typ, data+spelledSubs(subs)+"\x80\x00", api.ErrLong)
		}
		for size := range 256 {
			s := spelledSubs([]api.Sub{sized(7, size)})
			if size > 198 {
				checkError(t, typ, data+s, api.ErrLong)
			} else {
				checkGet(t, typ, data+s, with(m, "Subs", []api.Sub{sized(7, size)}))
			}
			checkError(t, typ, data+s[:len(s)-1], api.ErrShort)
		}
	}
}

// Fields that aren't all there are told, whatever the bytes that are there would
// be as sub-TLVs, and whatever the encoding is.
func TestP20_1GetShortAheadOfAll(t *testing.T) {
	need := map[int]int{2: 6, 3: 2, 4: 6, 5: 6}
	for _, typ := range kinds {
		for n := range need[typ] {
			for _, b := range []string{"\x80\x00\x80\x00\x80\x00", "\x04\x80\x02\x80\x00\x01", "\xff\xff\xff\xff\xff\xff", "\x02\x80\x02\x80\x02\x80"} {
				checkError(t, typ, b[:n], api.ErrShort)
			}
		}
	}
	for ae, size := range []int{0, 4, 16, 8} {
		head := string([]byte{byte(ae)}) + "\x80\x00\x80\x00\x00"
		for _, fill := range []string{"\x00", "\x01\x00", "\x02\x00", "\x80\x00", "\xff"} {
			for n := range size {
				checkError(t, 5, head+strings.Repeat(fill, 16)[:n], api.ErrShort)
			}
		}
	}
}

// Every cut of a message is that with those sub-TLVs that are all there, or too
// short.
func TestP20_1GetEveryCut(t *testing.T) {
	for _, m := range messages() {
		typ, data := types[m.Kind], spelledData(m)
		places := []int{len(spelledFields(m))}
		for i := range m.Subs {
			places = append(places, len(spelledFields(m))+len(spelledSubs(m.Subs[:i+1])))
		}
		for n := range len(data) + 1 {
			if i, whole := slices.BinarySearch(places, n); whole {
				checkGet(t, typ, data[:n], with(m, "Subs", m.Subs[:i]))
			} else {
				checkError(t, typ, data[:n], api.ErrShort)
			}
		}
	}
}

// The first two bytes may be any; so may those behind them.
func TestP20_1GetFirstBytes(t *testing.T) {
	for _, typ := range kinds {
		for first := range 256 {
			for second := range 256 {
				head := string([]byte{byte(first), byte(second)})
				for _, rest := range []string{"", "\x02", "\x00\x01\x02\x03", "\x00\x01\x02\x03abcd", "\x80\x00\x02\x01a\x00" + short + short} {
					checkTlv(t, typ, head+rest)
				}
			}
		}
	}
}

// Bytes of any kind.
func TestP20_1GetMixes(t *testing.T) {
	r := rand.New(rand.NewSource(1))
	for range 20000 {
		for _, typ := range kinds {
			b := []byte(someBytes(r, r.Intn(50)))
			for i := range b {
				// Small numbers make sub-TLVs that are all there.
				if r.Intn(3) > 0 {
					b[i] %= 5
				}
			}
			checkTlv(t, typ, string(b))
		}
	}
}

// Where the TLV begins says nothing.
func TestP20_1GetAnywhere(t *testing.T) {
	for _, m := range messages() {
		for _, at := range []int{0, 1, 4, 65535, 1 << 40, -1, math.MaxInt, math.MinInt} {
			if got, ok, err := Get(api.Tlv{Type: types[m.Kind], At: at, Data: spelledData(m)}); !same(got, m) || !ok || err != api.OK {
				t.Errorf("at %d: %s, %t, error %d; want %s", at, sketch(got), ok, err, sketch(m))
			}
		}
	}
}

// Other types aren't asked for; they end without a message all the same.
func TestGetOfOthers(t *testing.T) {
	other := []int{math.MinInt, -5, -2, -1, 0, 1, 256, 258, 1<<32 + 3, math.MaxInt}
	for typ := 6; typ < 256; typ++ {
		other = append(other, typ)
	}
	for _, typ := range other {
		for _, data := range []string{"", "\x00", "\x00\x07", "\x00\x00\x00\x07\x00\x08", "\x01\x00\x00\x07\x00\x08abcd\x80\x00"} {
			if m, ok, _ := Get(api.Tlv{Type: typ, Data: data}); !same(m, api.Msg{}) || ok {
				t.Errorf("Get of the type %d, %q, = %s, %t", typ, data, sketch(m), ok)
			}
		}
	}
}
