package entry

import (
	"encoding/binary"
	"math"
	"strings"
	"testing"

	"roadbook/api"
)

// route is a route's bytes: each field has others than the one next to it.
const route = "\x00\x02\x01\x02\x0a\x01\x02\x00\xff\xff\xfe\x00\x0a\x00\x00\x01\x00\x00\x00\x05"

// counted is the bytes 1 to 20, so that each one tells its place.
const counted = "\x01\x02\x03\x04\x05\x06\x07\x08\x09\x0a\x0b\x0c\x0d\x0e\x0f\x10\x11\x12\x13\x14"

// routeEntry is the entry whose bytes route is.
var routeEntry = api.Entry{
	Family: 2, Tag: 258, Addr: "\x0a\x01\x02\x00", Mask: "\xff\xff\xfe\x00", Next: "\x0a\x00\x00\x01", Metric: 5,
}

// countedEntry is the entry whose bytes counted is.
var countedEntry = api.Entry{
	Family: 0x0102, Tag: 0x0304, Addr: "\x05\x06\x07\x08", Mask: "\x09\x0a\x0b\x0c", Next: "\x0d\x0e\x0f\x10", Metric: 0x11121314,
}

// places are where the fields begin.
var places = []struct {
	name string
	at   int
}{{"Family", 0}, {"Tag", 2}, {"Addr", 4}, {"Mask", 8}, {"Next", 12}, {"Metric", 16}}

// numbers are the fields that are numbers: a way to each, its place, how many
// bytes it has, and the greatest one.
var numbers = []struct {
	name     string
	of       func(e *api.Entry) *int
	at, size int
	most     int
}{
	{"Family", func(e *api.Entry) *int { return &e.Family }, 0, 2, 65535},
	{"Tag", func(e *api.Entry) *int { return &e.Tag }, 2, 2, 65535},
	{"Metric", func(e *api.Entry) *int { return &e.Metric }, 16, 4, 4294967295},
}

// texts are the fields that are texts: a way to each, and its place.
var texts = []struct {
	name string
	of   func(e *api.Entry) *string
	at   int
}{
	{"Addr", func(e *api.Entry) *string { return &e.Addr }, 4},
	{"Mask", func(e *api.Entry) *string { return &e.Mask }, 8},
	{"Next", func(e *api.Entry) *string { return &e.Next }, 12},
}

// below are numbers below 0: the ends, and those that come out within a
// field's size, if only their last bytes are looked at.
var below = []int{
	-1, -2, -16, -128, -255, -256, -32768, -65535, -65536, -65537, -65536 + 2, -1 << 31, -1<<31 - 1, -1<<32 + 1, -1 << 32,
	-1<<32 + 2, -1<<32 - 1, -1 << 48, -1<<56 + 5, -1 << 56, math.MinInt + 2, math.MinInt + 1, math.MinInt,
}

// spelled is the entry whose bytes the 20 of s are, by the standard library.
func spelled(s string) api.Entry {
	b := []byte(s)
	return api.Entry{
		Family: int(binary.BigEndian.Uint16(b)),
		Tag:    int(binary.BigEndian.Uint16(b[2:])),
		Addr:   string(b[4:8]),
		Mask:   string(b[8:12]),
		Next:   string(b[12:16]),
		Metric: int(binary.BigEndian.Uint32(b[16:])),
	}
}

// laid is v as so many bytes, by the standard library.
func laid(v, size int) string {
	b := make([]byte, 8)
	binary.BigEndian.PutUint64(b, uint64(v))
	return string(b[8-size:])
}

// over is s with what stands from at on replaced by part.
func over(s string, at int, part string) string {
	return s[:at] + part + s[at+len(part):]
}

func checkGet(t *testing.T, s string, want api.Entry) {
	t.Helper()
	if e, ok := Get(s); !ok || e != want {
		t.Errorf("Get(%q) = %#v, %t; want %#v", s, e, ok, want)
	}
}

func checkNoGet(t *testing.T, s string) {
	t.Helper()
	if e, ok := Get(s); ok || e != (api.Entry{}) {
		t.Errorf("Get of %d bytes = %#v, %t; want nothing", len(s), e, ok)
	}
}

func checkPut(t *testing.T, e api.Entry, want string) {
	t.Helper()
	if s, ok := Put(e); !ok || s != want {
		t.Errorf("Put(%#v) = %q, %t; want %q", e, s, ok, want)
	}
}

func checkNoPut(t *testing.T, what string, e api.Entry) {
	t.Helper()
	if s, ok := Put(e); ok || s != "" {
		t.Errorf("Put, %s: %q, %t; want nothing", what, s, ok)
	}
}

// checkBack holds Get against the standard library, and Put against both.
func checkBack(t *testing.T, s string) {
	t.Helper()
	checkGet(t, s, spelled(s))
	checkPut(t, spelled(s), s)
}

// someTexts are texts of 20 bytes: of one byte alone, and with each byte set,
// to each value, at each place.
func someTexts() []string {
	l := []string{route, counted}
	for _, fill := range []string{"\x00", "\x01", "\x7f", "\x80", "\xff"} {
		l = append(l, strings.Repeat(fill, 20))
	}
	for at := range 20 {
		for value := range 256 {
			part := string([]byte{byte(value)})
			l = append(l, over(strings.Repeat("\x00", 20), at, part), over(strings.Repeat("\xff", 20), at, part), over(counted, at, part))
		}
	}
	return l
}

// someEntries are entries that have bytes: each field with each of some values,
// the others as they are.
func someEntries() []api.Entry {
	none := "\x00\x00\x00\x00"
	l := []api.Entry{{Addr: none, Mask: none, Next: none}, routeEntry, countedEntry}
	for _, from := range l[:3] {
		for _, f := range numbers {
			for _, v := range []int{1, 2, 15, 16, 17, 127, 128, 254, 255, 256, 257, 32767, 32768, 65534, 65535, f.most - 1, f.most} {
				e := from
				*f.of(&e) = v
				l = append(l, e)
			}
		}
		for _, f := range texts {
			for _, v := range []string{"\x00\x00\x00\x01", "\x01\x00\x00\x00", "\x80\x00\x00\x00", "abcd", "\xff\xff\xff\xff", "\xc3\xa9\xc3\xa9", "\r\n\t "} {
				e := from
				*f.of(&e) = v
				l = append(l, e)
			}
		}
	}
	return l
}

func TestP8_1GetExamples(t *testing.T) {
	checkGet(t, route, routeEntry)
	checkGet(t, counted, countedEntry)
	s := "\x00\x02" + strings.Repeat("\x00", 17) + "\x01"
	checkGet(t, s, api.Entry{Family: 2, Addr: "\x00\x00\x00\x00", Mask: "\x00\x00\x00\x00", Next: "\x00\x00\x00\x00", Metric: 1})
}

// Of noughts and of 255s: the least entry that there is, and the greatest.
func TestP8_1GetEnds(t *testing.T) {
	checkGet(t, strings.Repeat("\x00", 20), api.Entry{Addr: "\x00\x00\x00\x00", Mask: "\x00\x00\x00\x00", Next: "\x00\x00\x00\x00"})
	checkGet(t, strings.Repeat("\xff", 20), api.Entry{
		Family: 65535, Tag: 65535, Addr: "\xff\xff\xff\xff", Mask: "\xff\xff\xff\xff", Next: "\xff\xff\xff\xff", Metric: 4294967295,
	})
}

// One byte set, each place in turn, sets that place's field alone.
func TestP8_1GetOfOneByte(t *testing.T) {
	nought := "\x00\x00\x00\x00"
	for at := range 20 {
		for value := range 256 {
			part := string([]byte{byte(value)})
			want := api.Entry{Addr: nought, Mask: nought, Next: nought}
			for _, f := range numbers {
				if in := at - f.at; in >= 0 && in < f.size {
					*f.of(&want) = value << (8 * (f.size - 1 - in))
				}
			}
			for _, f := range texts {
				if in := at - f.at; in >= 0 && in < 4 {
					*f.of(&want) = over(nought, in, part)
				}
			}
			s := over(strings.Repeat("\x00", 20), at, part)
			checkGet(t, s, want)
			checkPut(t, want, s)
		}
	}
}

// Fewer bytes, or more, are no entry, whatever they are.
func TestP8_1GetOfOtherNumbersOfBytes(t *testing.T) {
	sizes := []int{399, 400, 401, 20 * 25, 1 << 10, 65535, 65536, 65536 + 20, 1 << 20, 1<<20 + 20}
	for n := range 300 {
		sizes = append(sizes, n)
	}
	for _, n := range sizes {
		if n == 20 {
			continue
		}
		for _, fill := range []string{"\x00", "\x01", "\xff", route, counted} {
			checkNoGet(t, strings.Repeat(fill, n/len(fill)+1)[:n])
		}
	}
}

// A whole entry with something ahead or behind is none, nor is one cut off.
func TestP8_1GetOfMoreOrLess(t *testing.T) {
	checkNoGet(t, "")
	for _, s := range []string{route, counted, strings.Repeat("\x00", 20), strings.Repeat("\xff", 20)} {
		for n := range 20 {
			checkNoGet(t, s[:n])
			checkNoGet(t, s[20-n:])
		}
		for _, more := range []string{"\x00", "\x01", "\xff", "\n", route} {
			checkNoGet(t, s+more)
			checkNoGet(t, more+s)
		}
	}
}

func TestP8_1PutExamples(t *testing.T) {
	checkPut(t, routeEntry, route)
	checkPut(t, countedEntry, counted)
	e := api.Entry{Family: 2, Addr: "\x00\x00\x00\x00", Mask: "\x00\x00\x00\x00", Next: "\x00\x00\x00\x00", Metric: 1}
	checkPut(t, e, "\x00\x02"+strings.Repeat("\x00", 17)+"\x01")
}

func TestP8_1PutEnds(t *testing.T) {
	checkPut(t, api.Entry{Addr: "\x00\x00\x00\x00", Mask: "\x00\x00\x00\x00", Next: "\x00\x00\x00\x00"}, strings.Repeat("\x00", 20))
	checkPut(t, api.Entry{
		Family: 65535, Tag: 65535, Addr: "\xff\xff\xff\xff", Mask: "\xff\xff\xff\xff", Next: "\xff\xff\xff\xff", Metric: 4294967295,
	}, strings.Repeat("\xff", 20))
}

// Numbers up to the greatest that fits stand at their place, the others as
// they are.
func TestP8_1PutNumbers(t *testing.T) {
	for _, f := range numbers {
		for _, v := range []int{0, 1, 2, 16, 17, 127, 128, 255, 256, 257, 32767, 32768, 65534, 65535, f.most / 2, f.most - 1, f.most} {
			e := countedEntry
			*f.of(&e) = v
			checkPut(t, e, over(counted, f.at, laid(v, f.size)))
		}
	}
	e := countedEntry
	for _, v := range []int{65536, 65537, 1 << 24, 1<<31 - 1, 1 << 31, 1<<31 + 1} {
		e.Metric = v
		checkPut(t, e, over(counted, 16, laid(v, 4)))
	}
}

// Numbers beyond do not fit, nor do those below 0, whatever their last bytes
// are.
func TestP8_1PutNumbersThatDoNotFit(t *testing.T) {
	for _, f := range numbers {
		beyond := []int{f.most + 1, f.most + 2, f.most + 3, 2 * f.most, 2*f.most + 2, 1 << 32, 1<<32 + 2, 1 << 33, 1 << 48, 1<<56 + 2, 1 << 62, math.MaxInt - 1, math.MaxInt}
		for _, v := range append(beyond, below...) {
			for _, e := range []api.Entry{countedEntry, routeEntry} {
				*f.of(&e) = v
				checkNoPut(t, f.name, e)
			}
		}
		for shift := 8 * f.size; shift < 63; shift++ {
			e := countedEntry
			*f.of(&e) += 1 << shift
			checkNoPut(t, f.name+" and a bit beyond", e)
			*f.of(&e) -= 2 << shift
			checkNoPut(t, f.name+" and a bit beyond, below 0", e)
		}
	}
}

// Family and Tag have two bytes, not four, as Metric does.
func TestP8_1PutFamilyAndTagOf65536(t *testing.T) {
	for _, v := range []int{65536, 65537, 131072, 1<<31 - 1, 1<<32 - 1} {
		e := routeEntry
		e.Family = v
		checkNoPut(t, "Family", e)
		e = routeEntry
		e.Tag = v
		checkNoPut(t, "Tag", e)
	}
}

// Texts of four bytes stand at their place, whatever they are; no others fit.
func TestP8_1PutTexts(t *testing.T) {
	sizes := []int{0, 1, 2, 3, 5, 6, 7, 8, 12, 15, 16, 17, 20, 255, 256, 260, 65536, 65540, 1 << 20, 1<<20 + 4}
	for _, f := range texts {
		for _, fill := range []string{"\x00", "\x01", "a", "\xff"} {
			e := countedEntry
			*f.of(&e) = strings.Repeat(fill, 4)
			checkPut(t, e, over(counted, f.at, strings.Repeat(fill, 4)))
			for _, n := range sizes {
				*f.of(&e) = strings.Repeat(fill, n)
				checkNoPut(t, f.name, e)
			}
		}
		e := countedEntry
		for _, s := range []string{"1.2.3.4", "0.0.0.0", "\x0a\x01\x02", "\x0a\x01\x02\x00\x00", "éé\x00", "ééé", "\x00\x00\x00\x00\x00\x00\x00\x00\x00\x00\xff\xff\x0a\x01\x02\x03"} {
			*f.of(&e) = s
			checkNoPut(t, f.name, e)
		}
		// Four letters, but more bytes.
		*f.of(&e) = "éàüö"
		checkNoPut(t, f.name, e)
		// Two letters, but four bytes.
		*f.of(&e) = "éà"
		checkPut(t, e, over(counted, f.at, "éà"))
	}
}

// What one text has too few, and another too many, doesn't make it right.
func TestP8_1PutTextsThatEvenOut(t *testing.T) {
	sizes := []int{0, 1, 2, 3, 4, 5, 6, 7, 8, 12}
	for _, a := range sizes {
		for _, m := range sizes {
			for _, n := range sizes {
				e := countedEntry
				e.Addr, e.Mask, e.Next = strings.Repeat("a", a), strings.Repeat("m", m), strings.Repeat("n", n)
				if a == 4 && m == 4 && n == 4 {
					checkPut(t, e, "\x01\x02\x03\x04aaaammmmnnnn\x11\x12\x13\x14")
				} else {
					checkNoPut(t, "texts of other sizes", e)
				}
			}
		}
	}
}

// Several fields that don't fit, and an entry that has nothing.
func TestP8_1PutOfNothing(t *testing.T) {
	checkNoPut(t, "of zero", api.Entry{})
	checkNoPut(t, "numbers alone", api.Entry{Family: 2, Tag: 1, Metric: 1})
	checkNoPut(t, "a whole entry as text", api.Entry{Family: 2, Addr: counted})
	checkNoPut(t, "all of it", api.Entry{Family: -1, Tag: 65536, Addr: "abc", Mask: "abcde", Next: "", Metric: 1 << 32})
	for i := range numbers {
		for _, g := range numbers[i+1:] {
			e := routeEntry
			*numbers[i].of(&e), *g.of(&e) = -1, g.most+1
			checkNoPut(t, numbers[i].name+" and "+g.name, e)
			*numbers[i].of(&e), *g.of(&e) = numbers[i].most+1, -1
			checkNoPut(t, numbers[i].name+" and "+g.name, e)
		}
	}
}

// A call hangs on its arguments alone: what didn't fit leaves nothing behind.
func TestP8_1PutAgain(t *testing.T) {
	for range 3 {
		checkNoPut(t, "of zero", api.Entry{})
		checkPut(t, routeEntry, route)
		checkNoGet(t, route[1:])
		checkGet(t, route, routeEntry)
	}
}

// Bytes that are an entry come back of it; all that have 20 are one.
func TestP8_2BytesComeBack(t *testing.T) {
	for _, s := range someTexts() {
		checkBack(t, s)
		e, is := Get(s)
		if got, ok := Put(e); !is || !ok || got != s {
			t.Errorf("%q comes back of %#v, %t as %q, %t", s, e, is, got, ok)
		}
	}
}

// Each number of two bytes, at each two places.
func TestP8_2EachTwoBytesComeBack(t *testing.T) {
	for at := range 19 {
		for n := range 1 << 16 {
			s := over(counted, at, laid(n, 2))
			e, is := Get(s)
			if got, ok := Put(e); !is || !ok || got != s || e != spelled(s) {
				t.Fatalf("%q comes back of %#v, %t as %q, %t", s, e, is, got, ok)
			}
		}
	}
}

// Texts gone through in steps that meet all kinds of bytes.
func TestP8_2ManyBytesComeBack(t *testing.T) {
	m := uint32(1)
	for range 1 << 14 {
		b := make([]byte, 20)
		for i := range b {
			m = m*1664525 + 1013904223
			b[i] = byte(m >> 24)
		}
		checkBack(t, string(b))
	}
}

// Entries that have bytes come back of them; of others nothing does.
func TestP8_2EntryComesBack(t *testing.T) {
	for _, e := range someEntries() {
		s, is := Put(e)
		if got, ok := Get(s); !is || len(s) != 20 || !ok || got != e {
			t.Errorf("%#v comes back of %q, %t as %#v, %t", e, s, is, got, ok)
		}
	}
	s, _ := Put(api.Entry{})
	checkNoGet(t, s)
}

// No two texts are one entry's, and no two entries have one text.
func TestP8_2EachItsOwn(t *testing.T) {
	textOf := map[api.Entry]string{}
	for _, s := range someTexts() {
		e, _ := Get(s)
		if other, is := textOf[e]; is && other != s {
			t.Errorf("%q and %q are both %#v", other, s, e)
		}
		textOf[e] = s
	}
	entryOf := map[string]api.Entry{}
	for _, e := range someEntries() {
		s, _ := Put(e)
		if other, is := entryOf[s]; is && other != e {
			t.Errorf("%#v and %#v are both %q", other, e, s)
		}
		entryOf[s] = e
	}
}

// A field that changes changes its own bytes alone.
func TestP8_2FieldsStandApart(t *testing.T) {
	for i, p := range places {
		end := 20
		if i+1 < len(places) {
			end = places[i+1].at
		}
		for _, e := range someEntries() {
			from := countedEntry
			switch p.name {
			case "Family":
				from.Family = e.Family
			case "Tag":
				from.Tag = e.Tag
			case "Addr":
				from.Addr = e.Addr
			case "Mask":
				from.Mask = e.Mask
			case "Next":
				from.Next = e.Next
			case "Metric":
				from.Metric = e.Metric
			}
			s, ok := Put(from)
			if !ok || s[:p.at] != counted[:p.at] || s[end:] != counted[end:] {
				t.Errorf("%s of %#v changes %q to %q", p.name, e, counted, s)
			}
		}
	}
}
