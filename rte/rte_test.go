package rte

import (
	"encoding/binary"
	"math"
	"strings"
	"testing"

	"roadbook/api"
)

const (
	// route is a route's bytes: each field has others than the one next to it.
	route = "\x20\x01\x0d\xb8\x00\x01\x00\x02\x00\x00\x00\x00\x00\x00\x00\x00\x01\x02\x40\x05"
	// hop is the bytes of a next hop: its address, and the metric 255.
	hop = "\xfe\x80\x00\x00\x00\x00\x00\x00\x00\x00\x00\x00\x00\x00\x00\x01\x00\x00\x00\xff"
	// counted is the bytes 1 to 20, so that each one tells its place.
	counted = "\x01\x02\x03\x04\x05\x06\x07\x08\x09\x0a\x0b\x0c\x0d\x0e\x0f\x10\x11\x12\x13\x14"
)

const (
	// noughtAddr is the address that is 0.
	noughtAddr = "\x00\x00\x00\x00\x00\x00\x00\x00\x00\x00\x00\x00\x00\x00\x00\x00"
	// letters is an address, of which each byte is another.
	letters = "abcdefghijklmnop"
)

// routeEntry, hopEntry and countedEntry are the entries of those bytes.
var (
	routeEntry   = api.Entry{Addr: route[:16], Tag: 258, Family: 64, Metric: 5}
	hopEntry     = api.Entry{Addr: hop[:16], Metric: 255}
	countedEntry = api.Entry{Addr: counted[:16], Tag: 0x1112, Family: 0x13, Metric: 0x14}
)

// numbers are the fields that are numbers: a way to each, its place, how many
// bytes it has, and the greatest one.
var numbers = []struct {
	name     string
	of       func(e *api.Entry) *int
	at, size int
	most     int
}{
	{"Tag", func(e *api.Entry) *int { return &e.Tag }, 16, 2, 65535},
	{"Family", func(e *api.Entry) *int { return &e.Family }, 18, 1, 255},
	{"Metric", func(e *api.Entry) *int { return &e.Metric }, 19, 1, 255},
}

// spares are the fields that an entry of RIPng has no place for.
var spares = []struct {
	name string
	of   func(e *api.Entry) *string
}{
	{"Mask", func(e *api.Entry) *string { return &e.Mask }},
	{"Next", func(e *api.Entry) *string { return &e.Next }},
}

// below are numbers below 0: the ends, and those that come out within a
// field's size, if only their last bytes are looked at.
var below = []int{
	-1, -2, -5, -16, -128, -251, -254, -255, -256, -257, -256 + 2, -512 + 5, -32768, -65535, -65536, -65537, -65536 + 2,
	-1 << 31, -1<<31 - 1, -1<<32 + 1, -1 << 32, -1<<32 + 2, -1 << 48, -1<<56 + 5, -1 << 56, math.MinInt + 2, math.MinInt + 1, math.MinInt,
}

// spelled is the entry whose bytes the 20 of s are, by the standard library.
func spelled(s string) api.Entry {
	b := []byte(s)
	return api.Entry{Addr: string(b[:16]), Tag: int(binary.BigEndian.Uint16(b[16:])), Family: int(b[18]), Metric: int(b[19])}
}

// laid is v as so many bytes, by the standard library.
func laid(v, size int) string {
	b := make([]byte, 8)
	binary.BigEndian.PutUint64(b, uint64(v))
	return string(b[8-size:])
}

// over is s with what stands from at on replaced by part.
func over(s string, at int, part string) string {
	return s[:at] + part + s[at+len(part):]
}

// long is a text of n bytes, made of fill.
func long(fill string, n int) string {
	return strings.Repeat(fill, n/len(fill)+1)[:n]
}

func checkGet(t *testing.T, s string, want api.Entry) {
	t.Helper()
	if e, ok := Get(s); !ok || e != want {
		t.Errorf("Get(%q) = %#v, %t; want %#v", s, e, ok, want)
	}
}

func checkNoGet(t *testing.T, s string) {
	t.Helper()
	if e, ok := Get(s); ok || e != (api.Entry{}) {
		t.Errorf("Get of %d bytes = %#v, %t; want nothing", len(s), e, ok)
	}
}

func checkPut(t *testing.T, e api.Entry, want string) {
	t.Helper()
	if s, ok := Put(e); !ok || s != want {
		t.Errorf("Put(%#v) = %q, %t; want %q", e, s, ok, want)
	}
}

func checkNoPut(t *testing.T, what string, e api.Entry) {
	t.Helper()
	if s, ok := Put(e); ok || s != "" {
		t.Errorf("Put, %s: %q, %t; want nothing", what, s, ok)
	}
}

// someTexts are texts of 20 bytes: of one byte alone, and with each byte set,
// to each value, at each place.
func someTexts() []string {
	l := []string{route, hop, counted}
	for _, fill := range []string{"\x00", "\x01", "\x7f", "\x80", "\xff"} {
		l = append(l, strings.Repeat(fill, 20))
	}
	for at := range 20 {
		for value := range 256 {
			part := string([]byte{byte(value)})
			l = append(l, over(strings.Repeat("\x00", 20), at, part), over(strings.Repeat("\xff", 20), at, part), over(counted, at, part))
		}
	}
	return l
}

// someAddrs are texts of 16 bytes.
func someAddrs() []string {
	l := []string{noughtAddr, letters, hop[:16], route[:16], "\x00\x00\x00\x00\x00\x00\x00\x00\x00\x00\xff\xff\x0a\x01\x02\x03", "éàüöéàüö", "0:0:0:0:0:0:0:0\n"}
	for _, fill := range []string{"\x01", "\x7f", "\x80", " ", "\xff", "\x00\xff"} {
		l = append(l, long(fill, 16))
	}
	return l
}

// someEntries are entries that have bytes: each field with each of some values,
// the others as they are.
func someEntries() []api.Entry {
	from := []api.Entry{{Addr: noughtAddr}, routeEntry, hopEntry, countedEntry}
	l := append([]api.Entry{}, from...)
	for _, e := range from {
		for _, f := range numbers {
			was := *f.of(&e)
			for v := range 256 {
				*f.of(&e) = v
				l = append(l, e)
				*f.of(&e) = f.most - v
				l = append(l, e)
			}
			*f.of(&e) = was
		}
		for _, addr := range someAddrs() {
			e.Addr = addr
			l = append(l, e)
		}
	}
	return l
}

func TestP11_1GetExamples(t *testing.T) {
	checkGet(t, route, routeEntry)
	checkGet(t, hop, hopEntry)
	checkGet(t, counted, countedEntry)
	checkGet(t, strings.Repeat("\x00", 19)+"\x10", api.Entry{Addr: noughtAddr, Metric: 16})
	checkGet(t, letters+"\x01\x02\x40\x05", api.Entry{Addr: letters, Tag: 258, Family: 64, Metric: 5})
}

// Of noughts and of 255s: the least entry that there is, and the greatest.
func TestP11_1GetEnds(t *testing.T) {
	checkGet(t, strings.Repeat("\x00", 20), api.Entry{Addr: noughtAddr})
	checkGet(t, strings.Repeat("\xff", 20), api.Entry{Addr: strings.Repeat("\xff", 16), Tag: 65535, Family: 255, Metric: 255})
}

// One byte set, each place in turn, sets that place's field alone.
func TestP11_1GetOfOneByte(t *testing.T) {
	for at := range 20 {
		for value := range 256 {
			part := string([]byte{byte(value)})
			want := api.Entry{Addr: noughtAddr}
			if at < 16 {
				want.Addr = over(noughtAddr, at, part)
			}
			for _, f := range numbers {
				if in := at - f.at; in >= 0 && in < f.size {
					*f.of(&want) = value << (8 * (f.size - 1 - in))
				}
			}
			s := over(strings.Repeat("\x00", 20), at, part)
			checkGet(t, s, want)
			checkPut(t, want, s)
		}
	}
}

// Get asks only whether the bytes are there: what no route has, an entry may.
func TestP11_1GetOfWhatNoRouteHas(t *testing.T) {
	checkGet(t, letters+"\xff\xff\x00\x00", api.Entry{Addr: letters, Tag: 65535})
	checkGet(t, letters+"\x00\x00\x81\x11", api.Entry{Addr: letters, Family: 129, Metric: 17})
	checkGet(t, letters+"\x00\x01\x01\xff", api.Entry{Addr: letters, Tag: 1, Family: 1, Metric: 255})
}

// Fewer bytes, or more, are no entry, whatever they are.
func TestP11_1GetOfOtherNumbersOfBytes(t *testing.T) {
	sizes := []int{0, 1, 19, 21, 40, 400, 500, 512 + 20, 1 << 10, 65535, 65536, 65536 + 20, 1 << 20, 1<<20 + 20}
	for n := range 300 {
		sizes = append(sizes, n)
	}
	for _, n := range sizes {
		for _, fill := range []string{"\x00", "\x01", "\xff", route, hop, counted} {
			if s := long(fill, n); n == 20 {
				checkGet(t, s, spelled(s))
			} else {
				checkNoGet(t, s)
			}
		}
	}
}

// A whole entry with something ahead or behind is none, nor is one cut off.
func TestP11_1GetOfMoreOrLess(t *testing.T) {
	checkNoGet(t, "")
	for _, s := range []string{route, hop, counted, strings.Repeat("\x00", 20), strings.Repeat("\xff", 20)} {
		for n := range 20 {
			checkNoGet(t, s[:n])
			checkNoGet(t, s[20-n:])
		}
		for _, more := range []string{"\x00", "\x01", "\xff", "\n", route, hop} {
			checkNoGet(t, s+more)
			checkNoGet(t, more+s)
		}
	}
}

// Bytes count, not letters.
func TestP11_1GetCountsBytes(t *testing.T) {
	checkNoGet(t, strings.Repeat("é", 20))
	s := strings.Repeat("é", 10)
	checkGet(t, s, api.Entry{Addr: "éééééééé", Tag: 0xc3a9, Family: 0xc3, Metric: 0xa9})
}

func TestP11_1PutExamples(t *testing.T) {
	checkPut(t, routeEntry, route)
	checkPut(t, hopEntry, hop)
	checkPut(t, countedEntry, counted)
	checkPut(t, api.Entry{Addr: noughtAddr, Metric: 16}, strings.Repeat("\x00", 19)+"\x10")
	checkPut(t, api.Entry{Addr: letters, Tag: 258, Family: 64, Metric: 5}, letters+"\x01\x02\x40\x05")
}

func TestP11_1PutEnds(t *testing.T) {
	checkPut(t, api.Entry{Addr: noughtAddr}, strings.Repeat("\x00", 20))
	checkPut(t, api.Entry{Addr: strings.Repeat("\xff", 16), Tag: 65535, Family: 255, Metric: 255}, strings.Repeat("\xff", 20))
}

func TestP11_1PutTags(t *testing.T) {
	for v, want := range map[int]string{0: "\x00\x00", 1: "\x00\x01", 255: "\x00\xff", 256: "\x01\x00", 32768: "\x80\x00", 65534: "\xff\xfe", 65535: "\xff\xff"} {
		e := countedEntry
		e.Tag = v
		checkPut(t, e, counted[:16]+want+counted[18:])
	}
}

func TestP11_1PutFamiliesAndMetrics(t *testing.T) {
	for v, want := range map[int]string{0: "\x00", 1: "\x01", 16: "\x10", 17: "\x11", 128: "\x80", 129: "\x81", 254: "\xfe", 255: "\xff"} {
		e := countedEntry
		e.Family = v
		checkPut(t, e, counted[:18]+want+counted[19:])
		e = countedEntry
		e.Metric = v
		checkPut(t, e, counted[:19]+want)
	}
}

// Family and Metric have one byte each, not two, as Tag does.
func TestP11_1PutFamilyAndMetricOf256(t *testing.T) {
	for _, v := range []int{256, 257, 256 + 64, 512, 65535} {
		e := routeEntry
		e.Family = v
		checkNoPut(t, "Family", e)
		e = routeEntry
		e.Metric = v
		checkNoPut(t, "Metric", e)
		e = routeEntry
		e.Tag = v
		checkPut(t, e, over(route, 16, laid(v, 2)))
	}
}

// Numbers beyond do not fit, nor do those below 0, whatever their last bytes
// are.
func TestP11_1PutNumbersThatDoNotFit(t *testing.T) {
	for _, f := range numbers {
		beyond := []int{f.most + 1, f.most + 2, 2 * f.most, 2*f.most + 2, 65536, 65537, 1 << 24, 1<<31 - 1, 1 << 31, 1 << 32, 1<<32 + 2, 1 << 48, 1 << 56, 1<<56 + 2, math.MaxInt - 1, math.MaxInt}
		for _, v := range append(beyond, below...) {
			for _, e := range []api.Entry{countedEntry, routeEntry, hopEntry, {Addr: noughtAddr}} {
				*f.of(&e) = v
				checkNoPut(t, f.name, e)
			}
		}
		for shift := 8 * f.size; shift < 63; shift++ {
			e := countedEntry
			*f.of(&e) += 1 << shift
			checkNoPut(t, f.name+" and a bit beyond", e)
			*f.of(&e) -= 2 << shift
			checkNoPut(t, f.name+" and a bit beyond, below 0", e)
		}
	}
}

// An address of 16 bytes is the first of them, whatever it is; no other fits.
func TestP11_1PutAddrs(t *testing.T) {
	for _, addr := range someAddrs() {
		e := countedEntry
		e.Addr = addr
		checkPut(t, e, addr+counted[16:])
	}
	for _, n := range []int{0, 1, 2, 4, 8, 12, 14, 15, 17, 18, 19, 20, 24, 32, 255, 256, 256 + 16, 65536 + 16, 1<<20 + 16} {
		for _, fill := range []string{"\x00", "\x01", "a", "\xff", counted} {
			for _, e := range []api.Entry{countedEntry, hopEntry, {}} {
				e.Addr = long(fill, n)
				checkNoPut(t, "Addr", e)
			}
		}
	}
	// So many letters, but more bytes; and a text that names one.
	for _, addr := range []string{strings.Repeat("é", 16), "0:0:0:0:0:0:0:0", "::", "fe80:0:0:0:0:0:0:1", "\x0a\x01\x02\x03"} {
		checkNoPut(t, "Addr", api.Entry{Addr: addr, Metric: 1})
	}
}

// Mask and Next are empty: not even noughts stand there.
func TestP11_1PutMaskAndNext(t *testing.T) {
	texts := []string{"\x00", " ", "a", "\x00\x00\x00\x00", "\xff\xff\xff\x00", "\x0a\x00\x00\x01", noughtAddr, hop[:16], long("\xff", 16), counted, long("a", 256), long("a", 65536)}
	for _, f := range spares {
		for _, e := range []api.Entry{routeEntry, hopEntry, countedEntry, {Addr: noughtAddr}} {
			for _, s := range texts {
				*f.of(&e) = s
				checkNoPut(t, f.name, e)
			}
			*f.of(&e) = ""
			checkPut(t, e, e.Addr+laid(e.Tag, 2)+laid(e.Family, 1)+laid(e.Metric, 1))
		}
	}
	for _, s := range texts {
		e := routeEntry
		e.Mask, e.Next = s, s
		checkNoPut(t, "Mask and Next", e)
	}
}

// What one text has too few, and another has, doesn't make it 16 bytes.
func TestP11_1PutTextsThatEvenOut(t *testing.T) {
	for n := range 17 {
		e := countedEntry
		e.Addr, e.Next = letters[:n], letters[n:]
		if n == 16 {
			checkPut(t, e, letters+counted[16:])
			continue
		}
		checkNoPut(t, "Addr and Next", e)
		e.Mask, e.Next = e.Next, ""
		checkNoPut(t, "Addr and Mask", e)
	}
}

// Several fields that don't fit, and an entry that has nothing.
func TestP11_1PutOfNothing(t *testing.T) {
	checkNoPut(t, "of zero", api.Entry{})
	checkNoPut(t, "numbers alone", api.Entry{Tag: 1, Family: 64, Metric: 1})
	checkNoPut(t, "a whole entry as text", api.Entry{Addr: counted})
	checkNoPut(t, "one of RIP", api.Entry{Family: 2, Addr: "\x0a\x01\x02\x00", Mask: "\xff\xff\xfe\x00", Next: "\x00\x00\x00\x00", Metric: 1})
	checkNoPut(t, "all of it", api.Entry{Family: -1, Tag: 65536, Addr: "abc", Mask: "abcde", Next: "a", Metric: 256})
	for i, f := range numbers {
		for _, g := range numbers[i+1:] {
			e := routeEntry
			*f.of(&e), *g.of(&e) = -1, g.most+1
			checkNoPut(t, f.name+" and "+g.name, e)
			*f.of(&e), *g.of(&e) = f.most+1, -1
			checkNoPut(t, f.name+" and "+g.name, e)
		}
	}
}

// A call hangs on its arguments alone: what didn't fit leaves nothing behind.
func TestP11_1PutAgain(t *testing.T) {
	for range 3 {
		checkNoPut(t, "of zero", api.Entry{})
		checkPut(t, routeEntry, route)
		checkNoGet(t, route[1:])
		checkGet(t, route, routeEntry)
	}
}

// checkBack holds Get against the standard library, and what comes back of it.
func checkBack(t *testing.T, s string) {
	t.Helper()
	e, is := Get(s)
	if !is || e != spelled(s) {
		t.Errorf("Get(%q) = %#v, %t; want %#v", s, e, is, spelled(s))
	}
	if got, ok := Put(e); !ok || got != s {
		t.Errorf("%q comes back of %#v as %q, %t", s, e, got, ok)
	}
}

// Bytes that are an entry come back of it; all that have 20 are one.
func TestP11_2BytesComeBack(t *testing.T) {
	for _, s := range someTexts() {
		checkBack(t, s)
	}
}

// Each number of two bytes, at each two places.
func TestP11_2EachTwoBytesComeBack(t *testing.T) {
	for at := range 19 {
		for n := range 1 << 16 {
			checkBack(t, over(counted, at, laid(n, 2)))
			if t.Failed() {
				return
			}
		}
	}
}

// Texts gone through in steps that meet all kinds of bytes.
func TestP11_2ManyBytesComeBack(t *testing.T) {
	m := uint32(1)
	for range 1 << 14 {
		b := make([]byte, 20)
		for i := range b {
			m = m*1664525 + 1013904223
			b[i] = byte(m >> 24)
		}
		checkBack(t, string(b))
	}
}

// Entries that have bytes come back of them; of others nothing does.
func TestP11_2EntryComesBack(t *testing.T) {
	for _, e := range someEntries() {
		s, is := Put(e)
		if got, ok := Get(s); !is || len(s) != 20 || !ok || got != e {
			t.Errorf("%#v comes back of %q, %t as %#v, %t", e, s, is, got, ok)
		}
	}
	s, _ := Put(api.Entry{})
	checkNoGet(t, s)
	e, _ := Get("")
	checkNoPut(t, "of no entry", e)
}

// No two texts are one entry's, and no two entries have one text.
func TestP11_2EachItsOwn(t *testing.T) {
	textOf := map[api.Entry]string{}
	for _, s := range someTexts() {
		e, _ := Get(s)
		if other, is := textOf[e]; is && other != s {
			t.Errorf("%q and %q are both %#v", other, s, e)
		}
		textOf[e] = s
	}
	entryOf := map[string]api.Entry{}
	for _, e := range someEntries() {
		s, _ := Put(e)
		if other, is := entryOf[s]; is && other != e {
			t.Errorf("%#v and %#v are both %q", other, e, s)
		}
		entryOf[s] = e
	}
}

// A field that changes changes its own bytes alone.
func TestP11_2FieldsStandApart(t *testing.T) {
	for _, f := range numbers {
		for v := range f.most + 1 {
			e := countedEntry
			*f.of(&e) = v
			checkPut(t, e, over(counted, f.at, laid(v, f.size)))
			checkGet(t, over(counted, f.at, laid(v, f.size)), e)
		}
	}
}
