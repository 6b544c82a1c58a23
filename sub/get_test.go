package sub

import (
	"math/rand"
	"slices"
	"strings"
	"testing"

	"roadbook/api"
)

func TestP19_1GetExamples(t *testing.T) {
	checkGet(t, "\x00\x02\x01a\x01\x00", []api.Sub{{Type: 2, Data: "a"}}, true)
	checkGet(t, "\x02\x01a\x7f\x00", []api.Sub{{Type: 2, Data: "a"}, {Type: 127}}, true)
	checkGet(t, "\x02\x00\x80\x00", []api.Sub{{Type: 2}}, false)
	checkGet(t, "\x80\x00", nil, false)
	checkNoGet(t, "\x02\x02a", api.ErrShort)
	checkNoGet(t, "\x02\xc7"+counted(199), api.ErrLong)
}

// No bytes are no sub-TLVs, of which none must be known.
func TestP19_1GetNone(t *testing.T) {
	checkGet(t, "", nil, true)
}

func TestP19_1GetLists(t *testing.T) {
	for _, l := range lists() {
		checkGet(t, spelled(l), l, true)
	}
}

// Each type with each size that a TLV has, alone and between others: it is
// padding, kept, too long, or must be known.
func TestP19_1GetEachTypeAndSize(t *testing.T) {
	plain := api.Sub{Type: 7, Data: "a"}
	for typ := range 256 {
		for size := range 256 {
			s := sized(typ, size)
			if typ == 0 {
				s.Data = ""
			}
			switch {
			case typ < 2:
				checkGet(t, spelled([]api.Sub{s}), nil, true)
			case typ > 127:
				checkGet(t, spelled([]api.Sub{s}), nil, false)
			case size > 198:
				checkNoGet(t, spelled([]api.Sub{s}), api.ErrLong)
			default:
				checkGet(t, spelled([]api.Sub{s}), []api.Sub{s}, true)
			}
			checkMix(t, []api.Sub{plain, s, plain})
		}
	}
}

// Padding alone, of both types, with and without data, is nothing at all.
func TestP19_1GetPadding(t *testing.T) {
	for _, pad := range pads() {
		checkGet(t, spelled(pad), nil, true)
	}
	for n := range 300 {
		checkGet(t, strings.Repeat("\x00", n), nil, true)
		checkGet(t, strings.Repeat("\x01\x00", n), nil, true)
	}
	checkGet(t, "\x00\x01\x01\x00\x00", nil, true)
	checkGet(t, "\x01\x02\x80\x00", nil, true)
	checkGet(t, "\x01\x03\x02\x01a", nil, true)
	checkGet(t, "\x00\x02\x00\x00", []api.Sub{{Type: 2}}, true)
}

// One that must be known, of each such type, first, in the middle and last; what
// stands beside it is kept all the same.
func TestP19_1GetMustBeKnown(t *testing.T) {
	others := []api.Sub{{Type: 2, Data: "a"}, {Type: 127}}
	for typ := 120; typ < 256; typ++ {
		for _, size := range tlvSizes {
			for at := range len(others) + 1 {
				l := slices.Insert(slices.Clone(others), at, sized(typ, size))
				if typ > 127 {
					checkGet(t, spelled(l), others, false)
				} else {
					checkMix(t, l)
				}
			}
			checkGet(t, spelled([]api.Sub{sized(128, 1), {}, sized(max(typ, 128), size), {Type: 1}}), nil, false)
		}
	}
	for n := 1; n < 300; n++ {
		checkGet(t, strings.Repeat("\x80\x00", n), nil, false)
	}
}

// Data is no sub-TLV, whatever it looks like.
func TestP19_1GetDataIsNotLookedAt(t *testing.T) {
	for _, fill := range append(fills, "\x80", "\x02\x02a", "\xff\xff") {
		for _, size := range rightSizes {
			for _, typ := range rightTypes {
				s := api.Sub{Type: typ, Data: long(fill, size)}
				checkGet(t, spelled([]api.Sub{s}), []api.Sub{s}, true)
			}
			checkGet(t, spelled([]api.Sub{{Type: 1, Data: long(fill, size)}}), nil, true)
			checkGet(t, spelled([]api.Sub{{Type: 200, Data: long(fill, size)}}), nil, false)
		}
	}
}

// Kept ones of 199 and of 200 bytes together are, those of 201 are too long,
// however many there are.
func TestP19_1GetTogether(t *testing.T) {
	for n := 1; n <= 99; n++ {
		for _, of := range []func(n, total int) []api.Sub{totalling, parted} {
			checkGet(t, spelled(of(n, 199)), of(n, 199), true)
			checkGet(t, spelled(of(n, most)), of(n, most), true)
			checkNoGet(t, spelled(of(n, most+1)), api.ErrLong)
		}
		for at := range n {
			l := slices.Repeat([]api.Sub{{Type: 2}}, n)
			l[at] = sized(127, 200-2*n)
			checkGet(t, spelled(l), l, true)
			l[at].Data += "z"
			checkNoGet(t, spelled(l), api.ErrLong)
		}
	}
	checkGet(t, spelled(totalling(100, most)), totalling(100, most), true)
	checkNoGet(t, spelled(totalling(100, most+1)), api.ErrLong)
	for _, l := range tooLong() {
		checkNoGet(t, spelled(l), api.ErrLong)
	}
	for n := 101; n < 600; n++ {
		checkNoGet(t, strings.Repeat("\x05\x00", n), api.ErrLong)
	}
	checkNoGet(t, strings.Repeat("\x05\x00", 32768), api.ErrLong)
}

// beside are sub-TLVs that aren't kept, and whether none of them must be known.
func beside() map[string]bool {
	return map[string]bool{
		"":                                     true,
		"\x00":                                 true,
		"\x01\x00":                             true,
		"\x01\x01a":                            true,
		spelled([]api.Sub{sized(1, 255)}):      true,
		strings.Repeat("\x00", 1000):           true,
		strings.Repeat("\x01\x02\x02\x00", 99): true,
		"\x80\x00":                             false,
		"\xff\x01a":                            false,
		spelled([]api.Sub{sized(128, 255)}):    false,
		"\x00" + strings.Repeat("\x81\x04abcd", 60) + "\x01\x00": false,
	}
}

// Only those that are kept count: of others there may be any number of bytes,
// and they don't make up for one too many either.
func TestP19_1GetTogetherBesideOthers(t *testing.T) {
	for other, known := range beside() {
		for _, n := range []int{1, 2, 3, 7, 50, 99} {
			for _, total := range []int{199, most, most + 1} {
				l := totalling(n, total)
				for at := range n + 1 {
					s := spelled(l[:at]) + other + spelled(l[at:])
					if total > most {
						checkNoGet(t, s, api.ErrLong)
						checkNoGet(t, other+s+other, api.ErrLong)
					} else {
						checkGet(t, s, l, known)
						checkGet(t, other+s+other, l, known)
					}
				}
			}
		}
	}
}

// A sub-TLV that isn't all there is told, at the first place, in the middle and
// at the last, behind whatever stands ahead of it.
func TestP19_1GetShort(t *testing.T) {
	ahead := []string{"", "\x00", "\x00\x00\x00", "\x01\x00", "\x02\x00", "\x02\x01a", "\x80\x00", "\x02\x01a\xff\x00\x00", strings.Repeat("\x07\x00", 100), strings.Repeat("\x00", 500)}
	cuts := []string{"\x01", "\x02", "\x7f", "\x80", "\xff", "\x01\x01", "\x02\x01", "\x80\x01", "\x02\xff", "\x02\x02a", "\x01\x04abc", "\xff\x03ab", "\x02\xff" + counted(254), "\x80\xff" + counted(253), "\x02\x80" + counted(127)}
	for _, first := range ahead {
		for _, s := range cuts {
			checkNoGet(t, first+s, api.ErrShort)
		}
	}
	for typ := 1; typ < 256; typ++ {
		b := string([]byte{byte(typ)})
		checkNoGet(t, b, api.ErrShort)
		checkNoGet(t, "\x02\x00"+b, api.ErrShort)
		checkNoGet(t, b+"\xff"+counted(254), api.ErrShort)
		checkNoGet(t, b+"\x02\x00", api.ErrShort)
	}
}

// Every cut of sub-TLVs is those that are all there, or too short.
func TestP19_1GetEveryCut(t *testing.T) {
	r := rand.New(rand.NewSource(1))
	all := [][]api.Sub{{sized(3, 2)}, {{}, sized(3, 2), {}, {Type: 1}, sized(255, 3), sized(1, 9), {}}, {sized(4, 100), {}, sized(5, 0), sized(6, 100)}}
	for range 100 {
		all = append(all, someMix(r, 8))
	}
	for _, l := range all {
		s, places := spelled(l), begins(l)
		for n := range len(s) + 1 {
			if i, whole := slices.BinarySearch(places, n); whole {
				checkMix(t, l[:i])
			} else {
				checkNoGet(t, s[:n], api.ErrShort)
			}
		}
	}
}

// Bytes that are no TLVs are told ahead of too many that are kept, wherever they
// stand; and too many that are kept are told whether or not one must be known.
func TestP19_1GetSeveralErrors(t *testing.T) {
	for _, l := range tooLong() {
		s := spelled(l)
		checkNoGet(t, s+"\x80\x00", api.ErrLong)
		checkNoGet(t, "\x80\x00"+s, api.ErrLong)
		checkNoGet(t, "\xff\x01a"+s+"\x00\x81\x00", api.ErrLong)
		for _, end := range []string{"\x01", "\x02", "\x80", "\x02\x01", "\x01\x02a", "\x80\xff"} {
			checkNoGet(t, s+end, api.ErrShort)
			checkNoGet(t, s+"\x80\x00"+end, api.ErrShort)
			checkNoGet(t, "\x80\x00"+s+end, api.ErrShort)
			checkNoGet(t, "\x80\x00"+end, api.ErrShort)
		}
		checkNoGet(t, s[:len(s)-1]+"\x02\xff", api.ErrShort)
	}
}

// Mixes of sub-TLVs of any types and sizes.
func TestP19_1GetMixes(t *testing.T) {
	r := rand.New(rand.NewSource(2))
	for range 20000 {
		checkMix(t, someMix(r, 10))
	}
	for range 20 {
		checkMix(t, someMix(r, 2000))
	}
	for _, typ := range slices.Concat(padTypes, rightTypes, mustTypes) {
		for _, other := range slices.Concat(padTypes, rightTypes, mustTypes) {
			checkMix(t, []api.Sub{{Type: typ}, {Type: other}})
			checkMix(t, []api.Sub{{Type: other}, {Type: typ}, {Type: other}})
		}
	}
}
