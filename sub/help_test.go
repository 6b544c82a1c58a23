package sub

import (
	"fmt"
	"math"
	"math/rand"
	"slices"
	"strings"
	"testing"

	"roadbook/api"
)

// most is how many bytes Subs may have together.
const most = 200

// fills are bytes of which data of any size are made; some look like sub-TLVs,
// those that must be known and padding among them.
var fills = []string{"\x00", "\x01", "\x01\x00", "\x02\x00", "\x80\x00", "\xff\x01a", "a", "\x7f", "é", "\xff"}

// rightTypes are types of Subs that may be, wrongTypes such as may not: the last
// bytes alone of some of them would do.
var (
	rightTypes = []int{2, 3, 4, 64, 100, 126, 127}
	wrongTypes = []int{
		1, 0, -1, -2, -3, -127, -128, -129, -254, -255, -256, -65534, -1 << 31, -1<<32 + 2, -1 << 56, math.MinInt, math.MinInt + 2,
		128, 129, 130, 192, 254, 255, 256, 257, 258, 383, 384, 65535, 65536, 65538, 1<<31 - 1, 1 << 31, 1<<32 + 2, 1<<56 + 127, math.MaxInt - 125, math.MaxInt,
	}
)

// padTypes are the types of padding, mustTypes such as must be known.
var (
	padTypes  = []int{0, 1}
	mustTypes = []int{128, 129, 130, 191, 192, 254, 255}
)

// rightSizes are how many bytes Data may have, wrongSizes how many it may not,
// since the Sub has two more: those up to 255 are a TLV's all the same.
var (
	rightSizes = []int{0, 1, 2, 3, 127, 128, 196, 197, 198}
	wrongSizes = []int{199, 200, 201, 202, 253, 254, 255, 256, 257, 258, 300, 454, 511, 512, 65535, 65536, 65538, 1 << 20}
	tlvSizes   = []int{0, 1, 2, 3, 127, 128, 196, 197, 198, 199, 200, 201, 253, 254, 255}
)

// long is a text of n bytes, made of fill.
func long(fill string, n int) string {
	return strings.Repeat(fill, n/len(fill)+1)[:n]
}

// counted is n bytes, each another than the one next to it.
func counted(n int) string {
	b := make([]byte, n)
	for i := range b {
		b[i] = byte(i + i>>8 + 1)
	}
	return string(b)
}

// someBytes are n bytes.
func someBytes(r *rand.Rand, n int) string {
	b := make([]byte, n)
	r.Read(b)
	return string(b)
}

// sized is the Sub of that type whose Data has n bytes.
func sized(typ, n int) api.Sub { return api.Sub{Type: typ, Data: counted(n)} }

// spelled is the bytes of the sub-TLVs of l, each of which is a TLV; those of
// the type 0 have no data.
func spelled(l []api.Sub) string {
	var b []byte
	for _, s := range l {
		if s.Type == 0 {
			b = append(b, 0)
			continue
		}
		b = append(b, byte(s.Type), byte(len(s.Data)))
		b = append(b, s.Data...)
	}
	return string(b)
}

// begins is where each sub-TLV of l begins in their bytes, and where they end.
func begins(l []api.Sub) []int {
	places := []int{0}
	for i := range l {
		places = append(places, len(spelled(l[:i+1])))
	}
	return places
}

// keptOf is what the chapter's words keep of l.
func keptOf(l []api.Sub) []api.Sub {
	return slices.DeleteFunc(slices.Clone(l), func(s api.Sub) bool {
		return slices.Contains(padTypes, s.Type) || s.Type >= 128
	})
}

// knownOf is whether none of l must be known.
func knownOf(l []api.Sub) bool {
	return !slices.ContainsFunc(l, func(s api.Sub) bool { return s.Type >= 128 })
}

// sum is how many bytes the Subs of l have together.
func sum(l []api.Sub) int { return len(spelled(l)) }

// totalling is n Subs that have so many bytes together, the first of them all
// that the others leave.
func totalling(n, total int) []api.Sub {
	l := make([]api.Sub, n)
	for i := range l {
		l[i] = api.Sub{Type: 2 + i%126}
	}
	l[0].Data = counted(total - 2*n)
	return l
}

// parted is n Subs that have so many bytes together, each as many as the others
// or one more.
func parted(n, total int) []api.Sub {
	l := make([]api.Sub, n)
	for i := range l {
		size := total / n
		if i < total%n {
			size++
		}
		l[i] = sized(127-i%126, size-2)
	}
	return l
}

// lists are lists of Subs that may be.
func lists() [][]api.Sub {
	plain := api.Sub{Type: 2, Data: "a"}
	all := [][]api.Sub{
		nil,
		{},
		{plain},
		{plain, plain},
		{plain, {Type: 127}},
		{{Type: 127}, plain},
		{{Type: 3}, {Type: 3}, {Type: 2}, {Type: 3, Data: "b"}},
		{sized(5, 20), {Type: 5}, sized(5, 1), sized(4, 2)},
		{{Type: 2, Data: "\x80\x00"}, {Type: 2, Data: "\x00"}, {Type: 2, Data: "\x01\x00"}},
		{{Type: 9, Data: "\x02\xff\xff"}, {Type: 10, Data: "é"}},
	}
	for _, typ := range rightTypes {
		for _, size := range rightSizes {
			all = append(all, []api.Sub{sized(typ, size)})
			if size < 190 {
				all = append(all, []api.Sub{plain, sized(typ, size)}, []api.Sub{sized(typ, size), plain, {Type: 126}})
			}
		}
	}
	for _, n := range []int{1, 2, 3, 4, 7, 50, 99} {
		all = append(all, totalling(n, 199), totalling(n, most), parted(n, 199), parted(n, most))
	}
	return append(all, totalling(100, most))
}

// tooLong are lists of Subs of types that may be, and of data that TLVs have,
// that have too many bytes together.
func tooLong() [][]api.Sub {
	all := [][]api.Sub{slices.Repeat([]api.Sub{{Type: 2}}, 101), slices.Repeat([]api.Sub{sized(9, 255)}, 300), {sized(3, 198), {Type: 3}}, {{Type: 3}, sized(3, 198)}}
	for _, total := range []int{201, 202, 256, 257} {
		for _, n := range []int{1, 2, 3, 4, 7, 50, 99, 100} {
			all = append(all, totalling(n, total), parted(n, total))
		}
	}
	return all
}

// pads are sub-TLVs that are padding: of both types, with and without data.
func pads() [][]api.Sub {
	all := [][]api.Sub{{{}}, {{Type: 1}}, {{}, {Type: 1}}, {{Type: 1}, {}}, make([]api.Sub, 300), slices.Repeat([]api.Sub{sized(1, 255)}, 4), slices.Repeat([]api.Sub{{Type: 1}}, 200)}
	for _, fill := range fills {
		for _, size := range []int{1, 2, 3, 199, 254, 255} {
			all = append(all, []api.Sub{{Type: 1, Data: long(fill, size)}})
		}
	}
	return all
}

// someList is n Subs at most that may be.
func someList(r *rand.Rand, n int) []api.Sub {
	var l []api.Sub
	left := most
	for range r.Intn(n + 1) {
		if left < 2 {
			break
		}
		size := r.Intn(min(6, left-1))
		if r.Intn(8) == 0 {
			size = r.Intn(left - 1)
		}
		l = append(l, api.Sub{Type: 2 + r.Intn(126), Data: someBytes(r, size)})
		left -= 2 + size
	}
	return l
}

// someMix is n sub-TLVs at most, of any types and sizes that TLVs have.
func someMix(r *rand.Rand, n int) []api.Sub {
	var l []api.Sub
	for range r.Intn(n + 1) {
		s := api.Sub{Type: r.Intn(256)}
		if r.Intn(2) == 0 {
			s.Type = []int{0, 1, 2, 127, 128, 255}[r.Intn(6)]
		}
		if s.Type > 0 {
			s.Data = someBytes(r, []int{0, 1, 2, 3, r.Intn(256)}[r.Intn(5)])
		}
		l = append(l, s)
	}
	return l
}

// sketch is how many Subs l has, and the first ones, each by its type and how
// many bytes its Data has.
func sketch(l []api.Sub) string {
	var parts []string
	for _, s := range l[:min(len(l), 5)] {
		parts = append(parts, fmt.Sprintf("%d:%d", s.Type, len(s.Data)))
	}
	return fmt.Sprintf("%d Subs (%s)", len(l), strings.Join(parts, " "))
}

// checkPut holds the Subs of l to be such as may be, and to have these bytes.
func checkPut(t *testing.T, l []api.Sub, want string) {
	t.Helper()
	if !Right(l) {
		t.Errorf("Right of %s = false", sketch(l))
	}
	if got, ok := Put(l); got != want || !ok {
		t.Errorf("Put of %s = %d bytes, %.60q, %t; want %d, %.60q", sketch(l), len(got), got, ok, len(want), want)
	}
}

// checkNoPut holds the Subs of l not to be such as may be, and to have no bytes
// at all.
func checkNoPut(t *testing.T, l []api.Sub) {
	t.Helper()
	if Right(l) {
		t.Errorf("Right of %s = true", sketch(l))
	}
	if got, ok := Put(l); got != "" || ok {
		t.Errorf("Put of %s = %d bytes, %.60q, %t; want nothing", sketch(l), len(got), got, ok)
	}
}

// checkGet holds s to be the bytes of sub-TLVs, of which these are kept.
func checkGet(t *testing.T, s string, want []api.Sub, known bool) {
	t.Helper()
	l, none, err := Get(s)
	if !slices.Equal(l, want) || none != known || err != api.OK {
		t.Errorf("Get of %d bytes, %.60q, = %s, %t, error %d; want %s, %t", len(s), s, sketch(l), none, err, sketch(want), known)
	}
}

// checkNoGet holds s to have that error, and to be nothing beside it.
func checkNoGet(t *testing.T, s string, want api.Errno) {
	t.Helper()
	if l, known, err := Get(s); len(l) != 0 || known || err != want {
		t.Errorf("Get of %d bytes, %.60q, = %s, %t, error %d; want nothing, error %d", len(s), s, sketch(l), known, err, want)
	}
}

// checkMix holds the bytes of l to be what the chapter's words make of them.
func checkMix(t *testing.T, l []api.Sub) {
	t.Helper()
	if kept := keptOf(l); sum(kept) > most {
		checkNoGet(t, spelled(l), api.ErrLong)
	} else {
		checkGet(t, spelled(l), kept, knownOf(l))
	}
}
