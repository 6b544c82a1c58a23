package ripng

import (
	"fmt"
	"math/rand"
	"slices"
	"strings"
	"testing"

	"roadbook/api"
)

func TestP12_2Examples(t *testing.T) {
	checkRoutes(t, head+entry1, []api.Msg{route1})
	checkRoutes(t, head+entry2, []api.Msg{route2})
	checkRoutes(t, ask+entry1, []api.Msg{wish})
	checkRoutes(t, head+entry1+entry2, []api.Msg{route1, route2})
	checkRoutes(t, head+hop1+entry1+entry1, []api.Msg{by1, by1})
	checkRoutes(t, ask+hop1+entry1, []api.Msg{by(wish, near1)})
	checkError(t, "nothing", "", 0, api.ErrShort)
	checkError(t, "a head alone", head, 4, api.ErrCount)
	checkError(t, "a metric of 17", head+over(entry1, 19, "\x11"), 4, api.ErrRange)
}

// Fewer than four bytes end too early, whatever they are.
func TestP12_2Short(t *testing.T) {
	for n := range 4 {
		for _, fill := range []string{head, ask, "\x00\x00\x00\x00", "\x03\x03\x03\x03", "\xff\xff\xff\xff"} {
			checkError(t, "short", fill[:n], n, api.ErrShort)
		}
	}
}

// Each byte of the head, with each value.
func TestP12_2Head(t *testing.T) {
	for v := range 256 {
		b := num(v, 1)
		for _, s := range []string{head + entry1 + entry1, head, head + "\x00", head + hop1, head + hop1 + entry1} {
			if v != 1 && v != 2 {
				checkError(t, "Cmd", over(s, 0, b), 0, api.ErrKind)
			}
			if v != 1 {
				checkError(t, "version", over(s, 1, b), 1, api.ErrKind)
			}
			if v != 0 {
				checkError(t, "the third byte", over(s, 2, b), 2, api.ErrZero)
				checkError(t, "the fourth byte", over(s, 3, b), 2, api.ErrZero)
			}
			for at := range 4 {
				checkTold(t, over(s, at, b))
			}
		}
	}
}

// checkSize holds Parse of n bytes, that begin as start, a head and perhaps
// entries of a next hop, and go on with entries of m.
func checkSize(t *testing.T, n int, start, entry string, m api.Msg) {
	t.Helper()
	b := (start + strings.Repeat(entry, n/20+1))[:n]
	switch {
	case n > 65535:
		checkError(t, "size", b, 65535, api.ErrLong)
	case n < 4 || n%20 != 4:
		checkError(t, "size", b, n, api.ErrShort)
	case n <= len(start):
		checkError(t, "size", b, n, api.ErrCount)
	default:
		checkRoutes(t, b, slices.Repeat([]api.Msg{m}, (n-len(start))/20))
	}
}

// All numbers of bytes that are few, and those about the greatest ones.
func TestP12_2Sizes(t *testing.T) {
	sizes := []int{1 << 14, 1<<14 + 4, 1 << 15, 1 << 17, 1 << 20, 1<<20 + 4, 20*(1<<16) + 4}
	for n := range 1100 {
		sizes = append(sizes, n)
	}
	for n := 65500; n < 65560; n++ {
		sizes = append(sizes, n)
	}
	for _, n := range sizes {
		checkSize(t, n, head, entry1, route1)
		checkSize(t, n, ask, entry1, wish)
		checkSize(t, n, head+hop1, entry1, by1)
		checkSize(t, n, head+hop1+hop2, entry1, by2)
	}
}

// The numbers of bytes that the chapter turns on, each by itself.
func TestP12_2SizeEdges(t *testing.T) {
	whole := head + strings.Repeat(entry1, 3300)
	for n, want := range map[int]api.Errno{0: api.ErrShort, 1: api.ErrShort, 3: api.ErrShort, 4: api.ErrCount, 5: api.ErrShort, 23: api.ErrShort, 25: api.ErrShort, 65523: api.ErrShort, 65525: api.ErrShort, 65535: api.ErrShort} {
		checkError(t, "edge", whole[:n], n, want)
	}
	for n, routes := range map[int]int{24: 1, 44: 2, 504: 25, 524: 26, 65504: 3275, 65524: 3276} {
		checkRoutes(t, whole[:n], slices.Repeat([]api.Msg{route1}, routes))
	}
	for _, n := range []int{65536, 65537, 65544, 65564, 66004} {
		checkError(t, "too many", whole[:n], 65535, api.ErrLong)
	}
	hops := head + strings.Repeat(hop1, 3300)
	checkError(t, "next hops alone", hops[:65524], 65524, api.ErrCount)
	checkError(t, "too many next hops", hops[:65544], 65535, api.ErrLong)
	checkRoutes(t, hops[:65504]+entry1, []api.Msg{by1})
	checkRoutes(t, head+entry1+hops[4:65504], []api.Msg{route1})
}

// What is too long is told, whatever the bytes are.
func TestP12_2Long(t *testing.T) {
	for _, fill := range []string{"\x00", "\x01", "\x02", "\xff"} {
		checkError(t, "long", strings.Repeat(fill, 65536), 65535, api.ErrLong)
		checkError(t, "long", strings.Repeat(fill, 1<<17), 65535, api.ErrLong)
		checkTold(t, strings.Repeat(fill, 65535))
	}
}

// A next hop holds for all routes behind it, up to the next one.
func TestP12_2Hops(t *testing.T) {
	checkRoutes(t, head+hop1+entry1+entry2, []api.Msg{by1, by(route2, near1)})
	checkRoutes(t, head+entry1+hop1+entry1, []api.Msg{route1, by1})
	checkRoutes(t, head+hop1+entry1+hop2+entry1+entry1, []api.Msg{by1, by2, by2})
	checkRoutes(t, head+hop1+entry1+hop0+entry1, []api.Msg{by1, route1})
	checkRoutes(t, head+hop1+entry1+hop2+entry1+hop1+entry1, []api.Msg{by1, by2, by1})
	checkRoutes(t, head+hop3+entry1, []api.Msg{by(route1, near3)})
	checkRoutes(t, head+strings.Repeat(entry1, 20)+hop1+strings.Repeat(entry1, 20),
		append(slices.Repeat([]api.Msg{route1}, 20), slices.Repeat([]api.Msg{by1}, 20)...))
}

// A next hop may stand where it says nothing to any route, or nothing new.
func TestP12_2HopsInVain(t *testing.T) {
	checkRoutes(t, head+entry1+hop1, []api.Msg{route1})
	checkRoutes(t, head+entry1+hop1+hop2+hopFar, []api.Msg{route1})
	checkRoutes(t, head+hop1+hop2+entry1, []api.Msg{by2})
	checkRoutes(t, head+hop1+hop2+hop0+entry1, []api.Msg{route1})
	checkRoutes(t, head+hop1+hop1+entry1+hop1+entry1, []api.Msg{by1, by1})
	checkRoutes(t, head+hop0+entry1+hop0+hop0+entry1, []api.Msg{route1, route1})
	checkError(t, "alone", head+hop1, 24, api.ErrCount)
	checkError(t, "alone, noughts", head+hop0, 24, api.ErrCount)
	checkError(t, "alone, asked", ask+hop1, 24, api.ErrCount)
	checkError(t, "alone, not link-local", head+hopFar, 24, api.ErrCount)
	checkError(t, "three alone", head+hop1+hop2+hop1, 64, api.ErrCount)
	checkError(t, "forty alone", head+strings.Repeat(hop1, 40), 804, api.ErrCount)
}

// One that isn't link-local says that who says so is the next one.
func TestP12_2HopsNotLinkLocal(t *testing.T) {
	checkRoutes(t, head+hopFar+entry1, []api.Msg{route1})
	checkRoutes(t, head+hop1+hopFar+entry1, []api.Msg{route1})
	checkRoutes(t, head+hop1+entry1+hopFar+entry1+hop2+entry1, []api.Msg{by1, route1, by2})
	checkRoutes(t, head+hopFar+hop1+entry1, []api.Msg{by1})
	for at := range 16 {
		for v := range 256 {
			addr := over(near1, at, num(v, 1))
			want := nought
			if at >= 8 || addr == near1 {
				want = addr
			}
			checkRoutes(t, head+hop2+addr+hopTail+entry1, []api.Msg{by(route1, want)})
		}
	}
	for bit := range 128 {
		checkRoutes(t, head+hop2+oneBit(bit)+hopTail+entry1, []api.Msg{route1})
	}
	checkRoutes(t, head+hop2+full+hopTail+entry1, []api.Msg{route1})
}

// Of a next hop the bytes of Tag and Family are 0.
func TestP12_2Zero(t *testing.T) {
	for _, hop := range []string{hop0, hop1, hopFar} {
		for at := 16; at < 19; at++ {
			for v := 1; v < 256; v++ {
				s := over(hop, at, num(v, 1))
				checkError(t, "one byte", head+s, 4, api.ErrZero)
				checkError(t, "one byte, and a route", head+s+entry1, 4, api.ErrZero)
				checkError(t, "one byte, second", ask+entry1+s+entry1, 24, api.ErrZero)
				checkError(t, "one byte, behind another", head+entry1+hop2+s, 44, api.ErrZero)
			}
		}
		checkError(t, "all of them", head+over(hop, 16, "\xff\xff\xff"), 4, api.ErrZero)
	}
}

// Each metric, with a prefix and without one. That of a next hop is 255 alone.
func TestP12_2Metric(t *testing.T) {
	for n := range 255 {
		s, none := over(entry1, 19, num(n, 1)), over(over(entry1, 18, "\x22"), 19, num(n, 1))
		checkError(t, "no prefix", head+none, 4, api.ErrForm)
		checkError(t, "no prefix, second", head+hop1+none, 24, api.ErrForm)
		if n >= 1 && n <= 16 {
			m := with(route1, func(m *api.Msg) { m.Metric = n })
			checkRoutes(t, head+s, []api.Msg{m})
			checkRoutes(t, head+hop1+s+entry1, []api.Msg{by(m, near1), by1})
			continue
		}
		checkError(t, "metric", head+s, 4, api.ErrRange)
		checkError(t, "metric, asked", ask+s, 4, api.ErrRange)
		checkError(t, "metric, second", head+entry1+s+entry1, 24, api.ErrRange)
		checkError(t, "metric, behind a next hop", head+hop1+s, 24, api.ErrRange)
	}
}

func TestP12_2Tag(t *testing.T) {
	for n := range 1 << 16 {
		m := with(route1, func(m *api.Msg) { m.Tag = n })
		checkRoutes(t, head+over(entry1, 16, num(n, 2)), []api.Msg{m})
	}
}

// Each length, with noughts, with all that it may have, and with a single bit.
func TestP12_2Prefix(t *testing.T) {
	for plen := range 256 {
		of := func(addr string) string { return head + addr + "\x01\x02" + num(plen, 1) + "\x05" }
		is := func(addr string) []api.Msg {
			return []api.Msg{with(route1, func(m *api.Msg) { m.Prefix, m.Plen = addr, plen })}
		}
		if plen > 128 {
			for _, addr := range []string{nought, full, net} {
				checkError(t, "too great a length", of(addr), 4, api.ErrForm)
			}
			continue
		}
		checkRoutes(t, of(nought), is(nought))
		checkRoutes(t, of(cut(full, plen)), is(cut(full, plen)))
		for bit := range 128 {
			if bit < plen {
				checkRoutes(t, of(oneBit(bit)), is(oneBit(bit)))
			} else {
				checkError(t, "a bit too far", of(oneBit(bit)), 4, api.ErrForm)
				checkError(t, "a bit too far, second", head+entry1+of(oneBit(bit))[4:], 24, api.ErrForm)
			}
		}
	}
}

// fault is an error, made by a change of a datagram, and where it is told; at
// the end, if at is below 0.
type fault struct {
	what string
	make func(b string) string
	at   int
	err  api.Errno
}

// set is a fault's change that puts part over what stands at at.
func set(at int, part string) func(b string) string {
	return func(b string) string { return over(b, at, part) }
}

// first is a fault's change that leaves the first n bytes.
func first(n int) func(b string) string {
	return func(b string) string { return b[:n] }
}

// behind is a fault's change that puts part at the end.
func behind(part string) func(b string) string {
	return func(b string) string { return b + part }
}

// same is a fault's change of what has the fault already.
func same(b string) string { return b }

// headFaults are the errors ahead of those of entries, in their order.
func headFaults() []fault {
	return []fault{
		{"long", behind(strings.Repeat(entry1, most+1)), 65535, api.ErrLong},
		{"short", first(3), -1, api.ErrShort},
		{"Cmd", set(0, "\x03"), 0, api.ErrKind},
		{"version", set(1, "\x02"), 1, api.ErrKind},
		{"zero", set(3, "\x01"), 2, api.ErrZero},
		{"ragged", behind("\x00\x00\x00\x00\x00"), -1, api.ErrShort},
	}
}

// routeFaults are the errors of a route's entry at at, in their order.
func routeFaults(at int) []fault {
	return []fault{
		{"a bit too far", set(at+15, "\x01"), at, api.ErrForm},
		{"no length", set(at+18, "\x81"), at, api.ErrForm},
		{"no metric", set(at+19, "\x00"), at, api.ErrRange},
		{"too great a metric", set(at+19, "\xfe"), at, api.ErrRange},
	}
}

// hopFaults are the errors of a next hop's entry at at, in their order.
func hopFaults(at int) []fault {
	return []fault{
		{"Tag", set(at+17, "\x01"), at, api.ErrZero},
		{"Family", set(at+18, "\x01"), at, api.ErrZero},
	}
}

// checkFaults holds each fault of l, alone and with each one behind it, to be
// told. The one behind is made first, so that the first one still stands.
func checkFaults(t *testing.T, b string, l []fault) {
	t.Helper()
	l = append(l, fault{"nothing more", same, 0, api.OK})
	for i, f := range l[:len(l)-1] {
		for _, g := range l[i+1:] {
			s := f.make(g.make(b))
			at := f.at
			if at < 0 {
				at = len(s)
			}
			checkError(t, fmt.Sprint(f.what, " at ", f.at, ", and ", g.what, " at ", g.at), s, at, f.err)
			checkTold(t, s)
		}
	}
}

// Of two errors at once the first one is told, whether they are of the whole,
// of one entry, or of two.
func TestP12_2TwoFaults(t *testing.T) {
	for _, start := range []string{head, ask} {
		l := headFaults()
		for at := 4; at < 84; at += 20 {
			l = append(l, routeFaults(at)...)
		}
		checkFaults(t, start+strings.Repeat(entry1, 4), l)
		l = append(headFaults(), hopFaults(4)...)
		l = append(append(l, routeFaults(24)...), hopFaults(44)...)
		l = append(append(l, hopFaults(64)...), routeFaults(84)...)
		checkFaults(t, start+hop1+entry1+hop0+hopFar+entry1+hop1, append(l, hopFaults(104)...))
	}
}

// That there is no route is told at last.
func TestP12_2TwoFaultsWithoutRoutes(t *testing.T) {
	for _, start := range []string{head, ask} {
		l := headFaults()
		checkFaults(t, start, append(l, fault{"no entry", same, -1, api.ErrCount}))
		for at := 4; at < 64; at += 20 {
			l = append(l, hopFaults(at)...)
		}
		checkFaults(t, start+hop1+hop0+hopFar, append(l, fault{"no route", same, -1, api.ErrCount}))
	}
}

// Bytes of all kinds, near datagrams that may be, against the sentences of the
// chapter one by one.
func TestP12_2Told(t *testing.T) {
	r := rand.New(rand.NewSource(2))
	parts := []string{entry1, entry2, hop0, hop1, hop3, hopFar, head, ask, hopTail, nought, "\x00\x00", "\x11", "\x81", "\x00", "\x01", "\xff"}
	for range 30000 {
		b := loose(r, someRoutes(r, 12))
		for range r.Intn(4) {
			part := parts[r.Intn(len(parts))]
			if r.Intn(3) == 0 {
				part = someBytes(r, 1+r.Intn(3))
			}
			at := r.Intn(len(b) + 1)
			if r.Intn(2) == 0 {
				at = min(len(b), 4+20*r.Intn(26))
			}
			switch r.Intn(8) {
			case 0:
				b = b[:at]
			case 1:
				b = b[:at] + part + b[at:]
			default:
				b = b[:at] + part + b[min(len(b), at+len(part)):]
			}
		}
		checkTold(t, b)
	}
}

// Bytes without any sense, of all sizes near the edges.
func TestP12_2Noise(t *testing.T) {
	r := rand.New(rand.NewSource(3))
	for n := range 300 {
		for range 20 {
			b := someBytes(r, n)
			checkTold(t, b)
			if n >= 4 {
				checkTold(t, over(b, 0, head))
				checkTold(t, over(b, 0, ask))
			}
		}
	}
}

// A call hangs on its argument alone: no next hop is kept from the one ahead.
func TestP12_2Again(t *testing.T) {
	for range 3 {
		checkRoutes(t, head+hop1+entry1, []api.Msg{by1})
		checkRoutes(t, head+entry1, []api.Msg{route1})
		checkError(t, "again", head+hop1, 24, api.ErrCount)
		checkRoutes(t, ask+entry1, []api.Msg{wish})
		checkError(t, "again", "", 0, api.ErrShort)
	}
}

// What is answered is nobody else's: a change of it is not to be seen later.
func TestP12_2AnswerIsNew(t *testing.T) {
	b := head + hop1 + entry1 + entry1
	l, _, _ := Parse(b)
	l[0] = api.Msg{}
	_ = append(l, bad)
	checkRoutes(t, b, []api.Msg{by1, by1})
}
