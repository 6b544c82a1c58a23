package sub

import (
	"math"
	"slices"
	"strings"
	"testing"

	"roadbook/api"
)

func TestP19_1PutExamples(t *testing.T) {
	checkPut(t, []api.Sub{{Type: 2, Data: "a"}}, "\x02\x01a")
	checkPut(t, []api.Sub{{Type: 2, Data: "a"}, {Type: 127}}, "\x02\x01a\x7f\x00")
	checkPut(t, []api.Sub{{Type: 127}, {Type: 2, Data: "a"}}, "\x7f\x00\x02\x01a")
	checkPut(t, []api.Sub{{Type: 3}, {Type: 3}, {Type: 3, Data: "\x00\x80"}}, "\x03\x00\x03\x00\x03\x02\x00\x80")
	checkNoPut(t, []api.Sub{{Type: 1}})
	checkNoPut(t, []api.Sub{{Type: 128}})
	checkNoPut(t, []api.Sub{{}})
}

// No Subs may be, and have no bytes.
func TestP19_1PutNone(t *testing.T) {
	checkPut(t, nil, "")
	checkPut(t, []api.Sub{}, "")
	checkPut(t, make([]api.Sub, 3)[:0], "")
}

func TestP19_1PutLists(t *testing.T) {
	for _, l := range lists() {
		checkPut(t, l, spelled(l))
	}
}

// Each type from 2 to 127 with each size of Data, up to 198 bytes.
func TestP19_1PutEachTypeAndSize(t *testing.T) {
	for typ := -2; typ <= 258; typ++ {
		for size := range 258 {
			s := sized(typ, size)
			if typ < 2 || typ > 127 || size > 198 {
				checkNoPut(t, []api.Sub{s})
			} else {
				checkPut(t, []api.Sub{s}, string([]byte{byte(typ), byte(size)})+s.Data)
			}
		}
	}
}

// Types that may not be, whatever the Data is, and those whose last byte alone
// would do.
func TestP19_1PutTypes(t *testing.T) {
	for _, typ := range wrongTypes {
		for _, size := range slices.Concat(rightSizes, wrongSizes) {
			checkNoPut(t, []api.Sub{sized(typ, size)})
		}
	}
	for shift := 8; shift < 64; shift++ {
		for _, typ := range rightTypes {
			checkNoPut(t, []api.Sub{sized(typ+1<<shift, 1)})
		}
	}
}

// Data that has too many bytes, whatever the type is. Bytes count, not letters.
func TestP19_1PutSizes(t *testing.T) {
	for _, fill := range fills {
		for _, typ := range rightTypes {
			for _, size := range rightSizes {
				data := long(fill, size)
				checkPut(t, []api.Sub{{Type: typ, Data: data}}, string([]byte{byte(typ), byte(size)})+data)
			}
			for _, size := range wrongSizes {
				checkNoPut(t, []api.Sub{{Type: typ, Data: long(fill, size)}})
			}
		}
	}
	letters := strings.Repeat("é", 99)
	checkPut(t, []api.Sub{{Type: 2, Data: letters}}, "\x02\xc6"+letters)
	checkNoPut(t, []api.Sub{{Type: 2, Data: letters + "a"}})
	checkNoPut(t, []api.Sub{{Type: 2, Data: letters + "é"}})
}

// Subs that have 199 and 200 bytes together may be, those that have 201 may not,
// however many there are and wherever the bytes stand.
func TestP19_1PutTogether(t *testing.T) {
	for n := 1; n <= 99; n++ {
		for _, of := range []func(n, total int) []api.Sub{totalling, parted} {
			for _, total := range []int{199, most} {
				checkPut(t, of(n, total), spelled(of(n, total)))
			}
			checkNoPut(t, of(n, most+1))
		}
		for at := range n {
			l := slices.Repeat([]api.Sub{{Type: 2}}, n)
			l[at] = sized(127, 200-2*n)
			checkPut(t, l, spelled(l))
			l[at].Data += "z"
			checkNoPut(t, l)
		}
	}
	checkPut(t, totalling(100, most), spelled(totalling(100, most)))
	checkNoPut(t, totalling(100, most+1))
	for _, l := range tooLong() {
		checkNoPut(t, l)
	}
	for first := range 197 {
		both := []api.Sub{sized(3, first), sized(3, 196-first)}
		checkPut(t, both, spelled(both))
		checkNoPut(t, append(both[:1:1], sized(3, 197-first)))
		checkNoPut(t, append(both, api.Sub{Type: 3}))
	}
	for n := 101; n < 300; n++ {
		checkNoPut(t, slices.Repeat([]api.Sub{{Type: 5}}, n))
	}
}

// Bytes beyond what a byte, or two of them, count are too many all the same.
func TestP19_1PutManyBytes(t *testing.T) {
	checkNoPut(t, slices.Repeat([]api.Sub{sized(9, 254)}, 256))
	checkNoPut(t, slices.Repeat([]api.Sub{{Type: 9}}, 128))
	checkNoPut(t, slices.Repeat([]api.Sub{{Type: 9}}, 32768))
	checkNoPut(t, []api.Sub{{Type: 2}, sized(9, 252)})
}

// One that may not be, at any place, leaves no bytes at all.
func TestP19_1PutOneWrongAmongOthers(t *testing.T) {
	wrong := []api.Sub{{}, {Type: 1}, {Type: -1}, {Type: 128}, {Type: 255}, {Type: 256}, {Type: 258}, {Type: math.MaxInt, Data: "ab"}, {Type: math.MinInt}, sized(2, 199), sized(2, 255), sized(2, 256), sized(256, 256)}
	for _, n := range []int{1, 2, 3, 10, 50} {
		for at := range n {
			for _, bad := range wrong {
				l := slices.Repeat([]api.Sub{{Type: 7, Data: "a"}}, n)
				checkPut(t, l, strings.Repeat("\x07\x01a", n))
				l[at] = bad
				checkNoPut(t, l)
				l[n-1] = sized(-1, 3)
				checkNoPut(t, l)
			}
		}
	}
	for _, typ := range wrongTypes {
		for at := range 3 {
			l := []api.Sub{sized(2, 3), sized(127, 0), sized(64, 60)}
			l[at].Type = typ
			checkNoPut(t, l)
		}
	}
}
