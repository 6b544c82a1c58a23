package aodv

import (
	"fmt"
	"math"
	"reflect"
	"slices"
	"strings"
	"testing"

	"roadbook/api"
)

func TestP17_1Examples(t *testing.T) {
	checkDatagram(t, api.Msg{Kind: api.Rreq, Flags: 16, Hops: 5, Nonce: 7, Addr: "abcd", Seq: 8, Orig: "efgh", Seq2: 9},
		"\x01\x80\x00\x05\x00\x00\x00\x07abcd\x00\x00\x00\x08efgh\x00\x00\x00\x09")
	checkDatagram(t, api.Msg{Kind: api.Rrep, Flags: 1, Plen: 24, Hops: 5, Addr: "abcd", Seq: 8, Orig: "efgh", Interval: 9},
		"\x02\x40\x18\x05abcd\x00\x00\x00\x08efgh\x00\x00\x00\x09")
	checkDatagram(t, api.Msg{Kind: api.Rerr, Flags: 1, List: []api.Dest{{Addr: "abcd", Seq: 8}}, Subs: []api.Sub{{Type: 2, Data: "x"}}},
		"\x03\x80\x00\x01abcd\x00\x00\x00\x08\x02\x01x")
	checkDatagram(t, ack(), "\x04\x00")
	checkDatagram(t, with(ack(), "Subs", []api.Sub{{Type: 1}}), "\x04\x00\x01\x00")
}

// Messages of all four kinds, with all kinds of lists of extensions.
func TestP17_1Messages(t *testing.T) {
	for _, m := range messages() {
		checkDatagram(t, m, spelled(m))
	}
	for n := 1; n <= 255; n++ {
		m := with(lost(), "List", dests(n))
		checkDatagram(t, m, spelled(m))
	}
}

// Each number may be from 0 up to its greatest one, and no other.
func TestP17_1Numbers(t *testing.T) {
	far := []int{-2, -255, -256, -1 << 31, -1 << 32, math.MinInt, math.MinInt + 1, 1 << 33, 1 << 40, 1 << 62, math.MaxInt - 1, math.MaxInt}
	for _, m := range append(heads(), ends()...) {
		for name, greatest := range greatestOf[m.Kind] {
			for _, n := range []int{0, 1, greatest / 2, greatest - 1, greatest} {
				v := with(m, name, n)
				checkDatagram(t, v, spelled(v))
			}
			for _, n := range append(far, -1, greatest+1, greatest+2, 2*greatest+2, 1<<32, 1<<32+greatest+1) {
				checkWrong(t, fmt.Sprint(name, n), with(m, name, n))
			}
		}
	}
}

// Addresses have four bytes, whatever these are.
func TestP17_1Addresses(t *testing.T) {
	for _, m := range []api.Msg{request(), reply()} {
		for _, name := range []string{"Addr", "Orig"} {
			for n := range 20 {
				for _, fill := range []string{"\x00", "\xff", "a"} {
					v := with(m, name, strings.Repeat(fill, n))
					if n == 4 {
						checkDatagram(t, v, spelled(v))
						continue
					}
					checkWrong(t, fmt.Sprint(name, " of ", n, " bytes"), v)
				}
			}
		}
	}
}

// Destinations are from 1 to 255, each of an address and a number of four bytes.
func TestP17_1Destinations(t *testing.T) {
	for _, n := range []int{0, 256, 257, 258, 511, 512, 513, 65536, 65537} {
		checkWrong(t, fmt.Sprint(n, " destinations"), with(lost(), "List", dests(n)))
	}
	for _, n := range []int{1, 2, 3, 255} {
		for at := range n {
			change := func(d api.Dest) api.Msg {
				l := dests(n)
				l[at] = d
				return with(lost(), "List", l)
			}
			for _, d := range []api.Dest{{Addr: "abcd"}, {Addr: "abcd", Seq: 1}, {Addr: "abcd", Seq: most}} {
				v := change(d)
				checkDatagram(t, v, spelled(v))
			}
			for _, d := range []api.Dest{{}, {Addr: "abc"}, {Addr: "abcde"}, {Addr: "abcdefghijklmnop"}, {Addr: "abcd", Seq: -1}, {Addr: "abcd", Seq: most + 1}, {Addr: "abcd", Seq: math.MinInt}, {Addr: "abcd", Seq: math.MaxInt}} {
				checkWrong(t, fmt.Sprint("destination ", at, " of ", n), change(d))
			}
		}
	}
}

// Extensions of each kind have a type of a byte, and at most 255 bytes, wherever
// among others they stand.
func TestP17_1Extensions(t *testing.T) {
	right := []api.Sub{sized(0, 0), sized(255, 255), sized(0, 255), sized(255, 0), sized(127, 127), sized(128, 128)}
	wrong := []api.Sub{sized(-1, 0), sized(256, 0), sized(257, 255), sized(0, 256), sized(255, 257), sized(1, 512), sized(1<<32, 0), sized(math.MinInt, 0), sized(math.MaxInt, 0)}
	for _, m := range append(heads(), ends()...) {
		for n := 1; n <= 3; n++ {
			for at := range n {
				change := func(e api.Sub) api.Msg {
					l := slices.Repeat([]api.Sub{sized(9, 3)}, n)
					l[at] = e
					return with(m, "Subs", l)
				}
				for _, e := range right {
					v := change(e)
					checkDatagram(t, v, spelled(v))
				}
				for _, e := range wrong {
					checkWrong(t, fmt.Sprint("extension ", at, " of ", n), change(e))
				}
			}
		}
	}
}

// A field that the kind doesn't have makes it one that may not be.
func TestP17_1Bare(t *testing.T) {
	for _, m := range append(heads(), ends()...) {
		of := reflect.TypeOf(m)
		for i := range of.NumField() {
			name := of.Field(i).Name
			if name == "Kind" || slices.Contains(fields[m.Kind], name) {
				continue
			}
			values := map[string][]any{
				"int":        {1, -1, math.MaxInt, math.MinInt},
				"string":     {"\x00", "abcd"},
				"[]api.Dest": {[]api.Dest{{}}, dests(2)},
				"[]api.Sub":  {[]api.Sub{{}}},
			}[of.Field(i).Type.String()]
			for _, v := range values {
				checkWrong(t, name, with(m, name, v))
			}
		}
		empty := m
		if m.Kind != api.Rerr {
			empty.List = []api.Dest{}
		}
		empty.Subs = []api.Sub{}
		checkDatagram(t, empty, spelled(m))
	}
}

// Every other Kind is none of AODV, whatever the fields are, and though it may
// be one of another protocol.
func TestP17_1OtherKinds(t *testing.T) {
	kinds := []int{-1, -2, math.MinInt, math.MaxInt, 15, 16, 255, 256, 257, 259, 260, 1 << 32, 1<<32 + 3, 1<<32 + 6, -1<<32 + 4}
	for kind := range api.LastOfKind + 1 {
		if fields[kind] == nil {
			kinds = append(kinds, kind)
		}
	}
	for _, m := range append(heads(), ends()...) {
		for _, kind := range kinds {
			checkWrong(t, fmt.Sprint("Kind ", kind), with(m, "Kind", kind))
		}
	}
	// Each of these has a field that no other kind of AODV has.
	for _, m := range []api.Msg{request(), reply(), lost()} {
		for kind := range fields {
			if kind != m.Kind {
				checkWrong(t, fmt.Sprint("Kind ", kind), with(m, "Kind", kind))
			}
		}
	}
	nought := strings.Repeat("\x00", 16)
	for _, m := range []api.Msg{
		{},
		{Kind: api.RipRoute, Cmd: 2, Ver: 2, Family: 2, Prefix: "\x0a\x01\x02\x00", Plen: 23, Next: "\x00\x00\x00\x00", Metric: 1},
		{Kind: api.NgRoute, Cmd: 2, Prefix: nought, Next: nought, Metric: 1},
		{Kind: api.AckReq, Nonce: 7, Interval: 9},
		{Kind: api.Ack, Nonce: 7},
		{Kind: api.Hello, Seq: 8, Interval: 9},
		{Kind: api.RouteReq},
		{Kind: api.Opaque, Type: 200, Data: "abc"},
	} {
		checkWrong(t, "another protocol's", m)
	}
}

// No message: none at the place 0. More than one: too many from the place 1 on.
func TestP17_1Count(t *testing.T) {
	checkRefused(t, "nil", nil, 0, api.ErrCount)
	checkRefused(t, "empty", []api.Msg{}, 0, api.ErrCount)
	checkRefused(t, "empty, with room", heads()[:0], 0, api.ErrCount)
	for _, a := range heads() {
		for _, b := range heads() {
			checkRefused(t, "two", []api.Msg{a, b}, 1, api.ErrCount)
			checkRefused(t, "three", []api.Msg{a, b, a}, 1, api.ErrCount)
			for _, n := range []int{4, 25, 26, 255, 256, 257, 1000} {
				checkRefused(t, "many", append([]api.Msg{a}, slices.Repeat([]api.Msg{b}, n-1)...), 1, api.ErrCount)
			}
		}
	}
}

// The first one that may not be is told by its place, ahead of how many there
// are.
func TestP17_1FirstWrong(t *testing.T) {
	bad := []api.Msg{{}, {Kind: api.Ack}, {Kind: 15}, {Kind: -1}, with(request(), "Flags", 32), with(reply(), "Plen", 32), with(lost(), "List", dests(256)), with(ack(), "Seq", 1)}
	for _, m := range heads() {
		for _, v := range bad {
			for _, n := range []int{1, 2, 3, 4, 40} {
				for at := range n {
					l := slices.Repeat([]api.Msg{m}, n)
					l[at] = v
					checkRefused(t, "one that may not be", l, at, api.ErrArg)
					l[n-1] = v
					checkRefused(t, "the last one neither", l, at, api.ErrArg)
					for i := at; i < n; i++ {
						l[i] = v
					}
					checkRefused(t, "nor any behind it", l, at, api.ErrArg)
				}
			}
		}
	}
}

// A datagram has at most 65535 bytes, of whichever kind it is.
func TestP17_1Long(t *testing.T) {
	for _, m := range append(heads(), ends()...) {
		for n := limit - 300; n <= limit; n += 37 {
			checkDatagram(t, long(m, n), spelled(long(m, n)))
		}
		for _, n := range []int{65534, 65535, 65536, 65537, 65538, 65600, 131070, 131071, 131072, 200000} {
			v := long(m, n)
			b := spelled(v)
			if len(b) != n {
				t.Fatalf("%d bytes instead of %d", len(b), n)
			}
			if n <= limit {
				checkDatagram(t, v, b)
				continue
			}
			if !Right(v) {
				t.Errorf("Right of %s = false", sketch(v))
			}
			checkRefused(t, "too long", []api.Msg{v}, 0, api.ErrLong)
			checkError(t, b, limit, api.ErrLong)
		}
	}
}

// How many there are is told ahead of how long they are, and one that may not be
// ahead of both.
func TestP17_1LongAndOthers(t *testing.T) {
	for _, m := range heads() {
		v := long(m, limit+1)
		checkRefused(t, "one too long", []api.Msg{v}, 0, api.ErrLong)
		checkRefused(t, "two too long", []api.Msg{v, v}, 1, api.ErrCount)
		checkRefused(t, "the second one too long", []api.Msg{m, v}, 1, api.ErrCount)
		checkRefused(t, "the first one too long", []api.Msg{v, m}, 1, api.ErrCount)
		checkRefused(t, "two of which each isn't", []api.Msg{long(m, limit), long(m, limit)}, 1, api.ErrCount)
		checkRefused(t, "too long, and may not be", []api.Msg{with(v, "Cost", 1)}, 0, api.ErrArg)
		checkRefused(t, "too long, ahead of one that may not be", []api.Msg{v, {}}, 1, api.ErrArg)
		checkRefused(t, "too long, and too many, and one may not be", []api.Msg{v, v, v, {}, v}, 3, api.ErrArg)
		v.Subs = append(v.Subs, sized(256, 0))
		checkRefused(t, "too long, and its last extension may not be", []api.Msg{v}, 0, api.ErrArg)
	}
}

// roomy is m with lists of its own that have spare room, all of it filled.
func roomy(m api.Msg) api.Msg {
	m.List = append(slices.Clone(m.List), api.Dest{Addr: "spare", Seq: 1}, api.Dest{Addr: "room", Seq: 2})[:len(m.List)]
	m.Subs = append(slices.Clone(m.Subs), api.Sub{Type: 1, Data: "spare"}, api.Sub{Type: 2, Data: "room"})[:len(m.Subs)]
	return m
}

// allOf is m with all that its lists have room for.
func allOf(m api.Msg) api.Msg {
	m.List, m.Subs = slices.Clone(m.List[:cap(m.List)]), slices.Clone(m.Subs[:cap(m.Subs)])
	return m
}

// What is handed in stays as it was, the spare room of each list too.
func TestP17_1StaysAsItWas(t *testing.T) {
	bad := with(lost(), "Flags", 2)
	for _, l := range [][]api.Msg{{}, {request()}, {reply()}, {lost()}, {ack()}, {bad}, {lost(), bad}, heads(), {long(lost(), limit)}, {long(ack(), limit+1)}} {
		var room []api.Msg
		for _, m := range append(l, ack(), lost()) {
			room = append(room, roomy(m), roomy(with(m, "Subs", lists()[6])))
		}
		room = room[:cap(room)]
		var before []api.Msg
		for _, m := range room {
			before = append(before, allOf(m))
		}
		for n := range len(room) + 1 {
			Encode(room[:n])
			Encode(room[:n:n])
		}
		for i, m := range room {
			Right(m)
			if !same(allOf(m), before[i]) {
				t.Errorf("%s became %s", sketch(before[i]), sketch(allOf(m)))
			}
		}
	}
}

// A call hangs on its argument alone.
func TestP17_1Again(t *testing.T) {
	for range 3 {
		for _, m := range heads() {
			checkDatagram(t, m, spelled(m))
			checkRefused(t, "again", []api.Msg{m, m}, 1, api.ErrCount)
			checkRefused(t, "again", nil, 0, api.ErrCount)
			checkWrong(t, "again", with(m, "Type", 1))
			checkRefused(t, "again", []api.Msg{long(m, limit+1)}, 0, api.ErrLong)
			checkDatagram(t, m, spelled(m))
		}
	}
}
