package frame

import (
	"math"
	"math/rand"
	"slices"
	"strings"
	"testing"

	"roadbook/api"
)

func TestP18_2Examples(t *testing.T) {
	l, at, err := Split("\x00\x03\x02ab\x01\x00", 4)
	want := []api.Tlv{{At: 4}, {Type: 3, At: 5, Data: "ab"}, {Type: 1, At: 9}}
	if !slices.Equal(l, want) || at != 0 || err != api.OK {
		t.Errorf("Split = %+v, at %d, error %d", l, at, err)
	}
	checkShort(t, "\x00\x03\x02a", 1)
	checkShort(t, "\x03\x02a", 0)
	checkPut(t, 3, "ab", "\x03\x02ab")
	checkPut(t, 1, "", "\x01\x00")
	checkPut(t, 255, "\x00", "\xff\x01\x00")
}

// No bytes are no TLVs, at whatever base.
func TestP18_2None(t *testing.T) {
	checkSplit(t, "", nil)
	l, at, err := Split("", 1<<40)
	if len(l) != 0 || at != 0 || err != api.OK {
		t.Errorf("Split of nothing = %s, at %d, error %d", sketch(l), at, err)
	}
}

func TestP18_2Lists(t *testing.T) {
	for _, l := range lists() {
		checkSplit(t, spelled(l), l)
	}
}

// TLVs of the type 0 alone: each is one byte, and tells its own place.
func TestP18_2Lone(t *testing.T) {
	for n := range 300 {
		checkSplit(t, strings.Repeat("\x00", n), make([]api.Tlv, n))
	}
	plain := api.Tlv{Type: 9, Data: "\x00\x00\x07"}
	for ahead := range 6 {
		for between := range 6 {
			for behind := range 6 {
				l := slices.Concat(make([]api.Tlv, ahead), []api.Tlv{plain}, make([]api.Tlv, between), []api.Tlv{plain}, make([]api.Tlv, behind))
				s := strings.Repeat("\x00", ahead) + "\x09\x03\x00\x00\x07" + strings.Repeat("\x00", between) + "\x09\x03\x00\x00\x07" + strings.Repeat("\x00", behind)
				checkSplit(t, s, l)
			}
		}
	}
}

// Each type with each size of data, and what stands at both in the bytes.
func TestP18_2EachTypeAndSize(t *testing.T) {
	for typ := 1; typ <= 255; typ++ {
		for size := range 256 {
			v := sized(typ, size)
			s := string([]byte{byte(typ), byte(size)}) + v.Data
			checkPut(t, typ, v.Data, s)
			l, at, err := Split(s, 4)
			if !slices.Equal(l, placed([]api.Tlv{v}, 4)) || at != 0 || err != api.OK {
				t.Fatalf("Split of %d bytes, %.60q, = %s, at %d, error %d", len(s), s, sketch(l), at, err)
			}
		}
	}
}

// Data of each size all there, short of one byte and of more, and with another
// type behind it, alone or with its length.
func TestP18_2Lengths(t *testing.T) {
	for size := range 256 {
		for _, fill := range []string{"\x00", "\x01", "\x02\x01", "a", "\xff"} {
			head, data := string([]byte{9, byte(size)}), long(fill, size)
			whole := api.Tlv{Type: 9, Data: data}
			checkSplit(t, head+data, []api.Tlv{whole})
			checkSplit(t, head+data+"\x00", []api.Tlv{whole, {}})
			checkSplit(t, head+data+"\x01\x00", []api.Tlv{whole, {Type: 1}})
			checkShort(t, head+data+"\x01", 2+size)
			checkShort(t, head+data+"\x00\x01", 3+size)
			checkShort(t, head+data+"\x01\x01", 2+size)
			for less := 1; less <= min(size, 3); less++ {
				checkShort(t, head+data[less:], 0)
				checkShort(t, "\x00"+head+data[less:], 1)
				checkShort(t, "\x01\x01a"+head+data[less:], 3)
			}
		}
	}
}

// A type with nothing behind it isn't all there, but for the type 0.
func TestP18_2TypeAlone(t *testing.T) {
	for typ := 1; typ <= 255; typ++ {
		b := string([]byte{byte(typ)})
		checkShort(t, b, 0)
		checkShort(t, "\x00"+b, 1)
		checkShort(t, "\x05\x03abc"+b, 5)
		checkShort(t, b+"\x01", 0)
		checkShort(t, b+"\xff"+strings.Repeat("\x00", 254), 0)
	}
	checkSplit(t, "\x00", []api.Tlv{{}})
}

// The first TLV that isn't all there is told by where it begins, behind many
// others and few.
func TestP18_2Short(t *testing.T) {
	ahead := []string{"", "\x00", "\x00\x00\x00", "\x02\x00", "\x01\x04abcd", "\x02\x00\x00\x01\x04abcd", "\x01\xff" + counted(255), strings.Repeat("\x07\x00", 300), strings.Repeat("\x00", 5000), spelled(lists()[13])}
	cuts := []string{"\x01", "\xff", "\x01\x01", "\x01\x04", "\x01\xff", "\xff\xff", "\x01\x04a", "\x01\x04abc", "\x05\x02\x00", "\x05\xff" + long("\x00", 254), "\x05\xff" + long("\xff", 253), "\x05\x80" + counted(127), "\x05\x81" + counted(128)}
	for _, first := range ahead {
		for _, s := range cuts {
			checkShort(t, first+s, len(first))
		}
	}
}

// checkCuts holds every cut of the bytes of l to be those TLVs that are all
// there, or to tell where the one begins that isn't.
func checkCuts(t *testing.T, l []api.Tlv) {
	t.Helper()
	s, places := spelled(l), begins(l)
	for n := range len(s) + 1 {
		if i, whole := slices.BinarySearch(places, n); whole {
			checkSplit(t, s[:n], l[:i])
		} else {
			checkShort(t, s[:n], places[i-1])
		}
	}
}

func TestP18_2EveryCut(t *testing.T) {
	checkCuts(t, []api.Tlv{sized(3, 2)})
	checkCuts(t, []api.Tlv{{}, sized(3, 2), {}, {}, sized(255, 0), sized(1, 9), {}})
	checkCuts(t, []api.Tlv{sized(4, 255), {}, sized(5, 0), sized(6, 254), sized(7, 1)})
	checkCuts(t, slices.Repeat([]api.Tlv{{}}, 40))
	r := rand.New(rand.NewSource(2))
	for range 100 {
		checkCuts(t, someList(r, 8))
	}
}

// More bytes than a datagram has are TLVs all the same: Split has no limit.
func TestP18_2ManyBytes(t *testing.T) {
	l := slices.Repeat([]api.Tlv{sized(7, 255), {}}, 300)
	want := placed(l, 1<<40)
	got, at, err := Split(spelled(l), 1<<40)
	if !slices.Equal(got, want) || at != 0 || err != api.OK {
		t.Errorf("Split of %d TLVs = %s, at %d, error %d", len(l), sketch(got), at, err)
	}
	s := strings.Repeat("\x00", 1<<20)
	got, at, err = Split(s, 4)
	if len(got) != 1<<20 || got[1<<20-1] != (api.Tlv{At: 1<<20 + 3}) || at != 0 || err != api.OK {
		t.Errorf("Split of 2^20 noughts = %s, at %d, error %d", sketch(got), at, err)
	}
	got, at, err = Split(s+"\x01", 1<<40)
	if len(got) != 0 || at != 1<<40+1<<20 || err != api.ErrShort {
		t.Errorf("Split of 2^20 noughts and a type = %s, at %d, error %d", sketch(got), at, err)
	}
}

// The chapter asks nothing of bases that it doesn't name, but no call panics.
func TestSplitOfOtherBases(t *testing.T) {
	for _, base := range []int{-1, -4, math.MinInt, 1<<40 + 1, math.MaxInt} {
		for _, s := range []string{"", "\x00", "\x00\x03\x02ab", "\x00\x03\x02a", "\x01"} {
			Split(s, base)
		}
	}
}

// A type is from 1 to 255, whatever the data are.
func TestP18_2PutTypes(t *testing.T) {
	for _, size := range rightSizes {
		for _, typ := range rightTypes {
			data := counted(size)
			checkPut(t, typ, data, string([]byte{byte(typ), byte(size)})+data)
		}
		for _, typ := range wrongTypes {
			checkNoPut(t, typ, counted(size))
		}
	}
	for shift := 8; shift < 64; shift++ {
		for _, typ := range rightTypes {
			checkNoPut(t, typ+1<<shift, "ab")
		}
	}
}

// Data have at most 255 bytes, whatever the type is. Bytes count, not letters.
func TestP18_2PutSizes(t *testing.T) {
	for _, fill := range fills {
		for _, typ := range slices.Concat(rightTypes, wrongTypes) {
			for _, size := range wrongSizes {
				checkNoPut(t, typ, long(fill, size))
			}
		}
		for _, typ := range rightTypes {
			for _, size := range rightSizes {
				checkPut(t, typ, long(fill, size), string([]byte{byte(typ), byte(size)})+long(fill, size))
			}
		}
	}
	letters := strings.Repeat("é", 127)
	checkPut(t, 1, letters+"a", "\x01\xff"+letters+"a")
	checkNoPut(t, 1, letters+"é")
	checkNoPut(t, 1, strings.Repeat("é", 255))
}
