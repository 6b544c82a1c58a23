package rip

import (
	"fmt"
	"math/rand"
	"slices"
	"strings"
	"testing"

	"roadbook/api"
)

func TestP10_2Examples(t *testing.T) {
	checkRoutes(t, head1+entry1, []api.Msg{route1})
	checkRoutes(t, head2+entry2, []api.Msg{route2})
	checkRoutes(t, head2+entry2+entry2, []api.Msg{route2, route2})
	checkRoutes(t, head2+says+entry2, []api.Msg{secret})
	checkRoutes(t, ask1+entryAll, []api.Msg{all1})
	checkRoutes(t, ask2+entryAll, []api.Msg{all2})
	checkRoutes(t, ask2+says+entryAll, []api.Msg{withAuth(all2, said)})
	checkRoutes(t, ask1+entry1, []api.Msg{with(route1, func(m *api.Msg) { m.Cmd = 1 })})
	checkRoutes(t, ask2+entry2, []api.Msg{with(route2, func(m *api.Msg) { m.Cmd = 1 })})
	checkError(t, "a metric of 17", head2+over(entry2, 19, "\x11"), 4, api.ErrRange)
}

// Fewer than four bytes end too early, whatever they are.
func TestP10_2Short(t *testing.T) {
	for n := range 4 {
		for _, fill := range []string{head1, head2, "\x00\x00\x00\x00", "\x03\x03\x03\x03", "\xff\xff\xff\xff"} {
			checkError(t, "short", fill[:n], n, api.ErrShort)
		}
	}
	checkError(t, "nothing", "", 0, api.ErrShort)
}

// Each byte of the head, with each value.
func TestP10_2Head(t *testing.T) {
	body := strings.Repeat(entry1, 2)
	for v := range 256 {
		b := num(v, 1)
		for _, s := range []string{head1 + body, head1, head1 + "\x00"} {
			if v != 1 && v != 2 {
				checkError(t, "Cmd", over(s, 0, b), 0, api.ErrKind)
				checkError(t, "Ver", over(s, 1, b), 1, api.ErrKind)
			}
			if v != 0 {
				checkError(t, "the third byte", over(s, 2, b), 2, api.ErrZero)
				checkError(t, "the fourth byte", over(s, 3, b), 2, api.ErrZero)
			}
		}
		checkTold(t, over(head1+body, 0, b))
		checkTold(t, over(head1+body, 1, b))
		checkTold(t, over(head1+body, 2, b))
		checkTold(t, over(head1+body, 3, b))
	}
}

// checkSize holds Parse of n bytes, that begin as head and go on with entries
// of that kind, all of which may be, against what their number allows.
func checkSize(t *testing.T, n int, head, entry string, m api.Msg) {
	t.Helper()
	b := (head + strings.Repeat(entry, n/20+1))[:n]
	routes := (n - len(head)) / 20
	switch {
	case n < 4 || n%20 != 4:
		checkError(t, "size", b, n, api.ErrShort)
	case n == 4 || n == len(head):
		checkError(t, "size", b, n, api.ErrCount)
	case n > 504:
		checkError(t, "size", b, 504, api.ErrCount)
	default:
		checkRoutes(t, b, slices.Repeat([]api.Msg{m}, routes))
	}
}

// All numbers of bytes, up to twice as many as there may be, and great ones.
func TestP10_2Sizes(t *testing.T) {
	sizes := []int{1 << 14, 1<<14 + 4, 65535, 65504, 65524, 65536, 65544, 1 << 20, 1<<20 + 4, 20*(1<<16) + 4}
	for n := range 1100 {
		sizes = append(sizes, n)
	}
	for _, n := range sizes {
		checkSize(t, n, head1, entry1, route1)
		checkSize(t, n, head2, entry2, route2)
		checkSize(t, n, head2+says, entry2, secret)
	}
}

// The numbers of bytes that the chapter turns on, each by itself.
func TestP10_2SizeEdges(t *testing.T) {
	whole := head2 + strings.Repeat(entry2, 60)
	for n, want := range map[int]api.Errno{0: api.ErrShort, 1: api.ErrShort, 3: api.ErrShort, 4: api.ErrCount, 5: api.ErrShort, 23: api.ErrShort, 25: api.ErrShort, 505: api.ErrShort, 1000: api.ErrShort} {
		checkError(t, "edge", whole[:n], n, want)
	}
	for n, routes := range map[int]int{24: 1, 44: 2, 504: 25} {
		checkRoutes(t, whole[:n], slices.Repeat([]api.Msg{route2}, routes))
	}
	checkError(t, "26 entries", whole[:524], 504, api.ErrCount)
	checkError(t, "50 entries", whole[:1004], 504, api.ErrCount)
	known := head2 + says + strings.Repeat(entry2, 60)
	checkError(t, "Auth alone", known[:24], 24, api.ErrCount)
	for n, routes := range map[int]int{44: 1, 484: 23, 504: 24} {
		checkRoutes(t, known[:n], slices.Repeat([]api.Msg{secret}, routes))
	}
	checkError(t, "26 entries with Auth", known[:524], 504, api.ErrCount)
}

// An entry of authentication is one at the first place, in the version 2.
func TestP10_2Auth(t *testing.T) {
	checkError(t, "alone", head2+says, 24, api.ErrCount)
	checkError(t, "alone, asked", ask2+says, 24, api.ErrCount)
	checkError(t, "second", head2+entry2+says, 24, api.ErrKind)
	checkError(t, "last", head2+strings.Repeat(entry2, 24)+says, 484, api.ErrKind)
	checkError(t, "twice", head2+says+says, 24, api.ErrKind)
	checkError(t, "twice, and a route", head2+says+says+entry2, 24, api.ErrKind)
	checkError(t, "third", head2+says+entry2+says, 44, api.ErrKind)
	checkError(t, "version 1", head1+says+entry1, 4, api.ErrKind)
	checkError(t, "version 1, alone", head1+says, 4, api.ErrKind)
	checkError(t, "version 1, asked", ask1+says+entryAll, 4, api.ErrKind)
	for _, family := range []string{"\xff\xfe", "\xfe\xff", "\xff\x00", "\x00\xff"} {
		checkError(t, "almost", head2+family+said+entry2, 4, api.ErrKind)
	}
}

// What it says may be anything, and holds for all routes.
func TestP10_2AuthSays(t *testing.T) {
	r := rand.New(rand.NewSource(2))
	list := []string{said, strings.Repeat("\x00", 18), strings.Repeat("\xff", 18), entry2[:18], says[:18]}
	for range 1000 {
		list = append(list, someBytes(r, 18))
	}
	for _, s := range list {
		m := withAuth(route2, s)
		checkRoutes(t, head2+"\xff\xff"+s+entry2, []api.Msg{m})
		checkRoutes(t, head2+"\xff\xff"+s+strings.Repeat(entry2, 3), []api.Msg{m, m, m})
		checkRoutes(t, ask2+"\xff\xff"+s+entryAll, []api.Msg{withAuth(all2, s)})
	}
}

// Each family, at the first place and at later ones: but 0 and 2 there is none.
func TestP10_2Family(t *testing.T) {
	for family := range 1 << 16 {
		f := num(family, 2)
		if family == 0 || family == 2 {
			continue
		}
		checkError(t, "version 1", head1+over(entry1, 0, f), 4, api.ErrKind)
		checkError(t, "version 1, second", head1+entry1+over(entry1, 0, f), 24, api.ErrKind)
		checkError(t, "version 2, second", head2+entry2+over(entry2, 0, f)+entry2, 24, api.ErrKind)
		checkError(t, "of all, version 1", ask1+over(entryAll, 0, f), 4, api.ErrKind)
		if family == 65535 {
			continue
		}
		checkError(t, "version 2", head2+over(entry2, 0, f), 4, api.ErrKind)
		checkError(t, "of all, version 2", ask2+over(entryAll, 0, f), 4, api.ErrKind)
	}
}

// Of the family 0 there is one entry alone, and one that is alone.
func TestP10_2All(t *testing.T) {
	checkError(t, "answered, version 1", head1+entryAll, 4, api.ErrForm)
	checkError(t, "answered, version 2", head2+entryAll, 4, api.ErrForm)
	checkError(t, "answered, with Auth", head2+says+entryAll, 24, api.ErrForm)
	checkError(t, "twice, version 1", ask1+entryAll+entryAll, 4, api.ErrForm)
	checkError(t, "twice, version 2", ask2+entryAll+entryAll, 4, api.ErrForm)
	checkError(t, "twice, with Auth", ask2+says+entryAll+entryAll, 24, api.ErrForm)
	checkError(t, "first, version 1", ask1+entryAll+entry1, 4, api.ErrForm)
	checkError(t, "first, version 2", ask2+entryAll+entry2, 4, api.ErrForm)
	checkError(t, "behind, version 1", ask1+entry1+entryAll, 24, api.ErrForm)
	checkError(t, "behind, version 2", ask2+entry2+entryAll, 24, api.ErrForm)
	checkError(t, "behind, with Auth", ask2+says+entry2+entryAll, 44, api.ErrForm)
	checkError(t, "last of 25", ask2+strings.Repeat(entry2, 24)+entryAll, 484, api.ErrForm)
	for _, head := range []string{ask1, ask2, ask2 + says, head1, head2, head2 + says} {
		for at := 2; at < 20; at++ {
			for v := range 256 {
				s := over(entryAll, at, num(v, 1))
				if s != entryAll {
					checkError(t, "another byte", head+s, len(head), api.ErrForm)
				}
			}
		}
	}
}

// Of the version 1 the bytes of Tag, Mask and Next are 0.
func TestP10_2Zero(t *testing.T) {
	for at := range 20 {
		if at < 2 || at >= 4 && at < 8 || at >= 16 {
			continue
		}
		for v := 1; v < 256; v++ {
			s := over(entry1, at, num(v, 1))
			checkError(t, "one byte", head1+s, 4, api.ErrZero)
			checkError(t, "one byte, asked", ask1+s, 4, api.ErrZero)
			checkError(t, "one byte, second", head1+entry1+s+entry1, 24, api.ErrZero)
		}
	}
	checkError(t, "a mask", head1+over(entry1, 8, "\xff\xff\xff\xff"), 4, api.ErrZero)
	checkError(t, "a route of the version 2", head1+entry2, 4, api.ErrZero)
}

// Of the version 2 Tag and Next may be anything.
func TestP10_2TagAndNext(t *testing.T) {
	for v := range 256 {
		for at := range 20 {
			if at < 2 || at >= 4 && at < 12 || at >= 16 {
				continue
			}
			s := over(entry2, at, num(v, 1))
			m := with(route2, func(m *api.Msg) { m.Tag, m.Next = value(s[2:4]), s[12:16] })
			checkRoutes(t, head2+s, []api.Msg{m})
			checkRoutes(t, head2+says+s, []api.Msg{withAuth(m, said)})
		}
	}
}

// Each mask, with each prefix that has a single bit, or all that it may have.
func TestP10_2Mask(t *testing.T) {
	for plen := range 33 {
		mask := maskText(plen)
		for _, addr := range []string{mask, nought} {
			m := with(route2, func(m *api.Msg) { m.Prefix, m.Plen = addr, plen })
			checkRoutes(t, head2+over(over(entry2, 4, addr), 8, mask), []api.Msg{m})
		}
		for bit := range 32 {
			addr := num(1<<(31-bit), 4)
			s := head2 + over(over(entry2, 4, addr), 8, mask)
			if bit >= plen {
				checkError(t, "a bit too far", s, 4, api.ErrForm)
				continue
			}
			checkRoutes(t, s, []api.Msg{with(route2, func(m *api.Msg) { m.Prefix, m.Plen = addr, plen })})
		}
	}
}

// Masks with a bit more, or less, or turned round, are none: but those that are
// the next ones.
func TestP10_2NoMask(t *testing.T) {
	s := head2 + over(entry2, 4, nought)
	for plen := range 33 {
		for bit := range 32 {
			m := value(maskText(plen)) ^ 1<<(31-bit)
			b := over(s, 12, num(m, 4))
			if bit != plen && bit != plen-1 {
				checkError(t, "another bit", b, 4, api.ErrForm)
			}
			checkTold(t, b)
		}
		if plen > 0 && plen < 32 {
			checkError(t, "turned round", over(s, 12, num(value(maskText(plen))^0xffffffff, 4)), 4, api.ErrForm)
		}
	}
	for _, mask := range []string{"\x00\xff\xff\xff", "\xff\x00\xff\x00", "\xff\xff\x00\xff", "\x00\x00\x00\x01", "\xfd\x00\x00\x00", "\xff\xff\xff\x7f"} {
		checkError(t, "no mask", over(s, 12, mask), 4, api.ErrForm)
	}
}

// Of the version 1 an address may be any, all of it.
func TestP10_2AddrOfVersion1(t *testing.T) {
	for at := 4; at < 8; at++ {
		for v := range 256 {
			s := over(entry1, at, num(v, 1))
			checkRoutes(t, head1+s, []api.Msg{with(route1, func(m *api.Msg) { m.Prefix = s[4:8] })})
		}
	}
}

func TestP10_2Metric(t *testing.T) {
	list := []int{1 << 8, 1<<8 + 1, 1<<8 + 16, 1 << 16, 1<<16 + 1, 1<<16 + 5, 1 << 24, 1<<24 + 1, 1<<31 + 1, 1<<32 - 1, 1<<32 - 16}
	for n := range 300 {
		list = append(list, n)
	}
	for _, n := range list {
		one, two := over(entry1, 16, num(n, 4)), over(entry2, 16, num(n, 4))
		if n >= 1 && n <= 16 {
			set := func(m *api.Msg) { m.Metric = n }
			checkRoutes(t, head1+one, []api.Msg{with(route1, set)})
			checkRoutes(t, head2+two, []api.Msg{with(route2, set)})
			checkRoutes(t, head2+says+two+entry2, []api.Msg{with(secret, set), secret})
			continue
		}
		checkError(t, "version 1", head1+one, 4, api.ErrRange)
		checkError(t, "version 1, second", head1+entry1+one, 24, api.ErrRange)
		checkError(t, "version 2", head2+two, 4, api.ErrRange)
		checkError(t, "with Auth", head2+says+two, 24, api.ErrRange)
	}
}

// fault is an error, made by a change of a datagram, and where it is told; at
// the end, if at is below 0.
type fault struct {
	what string
	make func(b string) string
	at   int
	err  api.Errno
}

// set is a fault's change that puts part over what stands at at.
func set(at int, part string) func(b string) string {
	return func(b string) string { return over(b, at, part) }
}

// cut is a fault's change that leaves n bytes.
func cut(n int) func(b string) string {
	return func(b string) string { return b[:n] }
}

// headFaults are the errors ahead of those of entries, in their order, of a
// datagram that goes on with more.
func headFaults(more string) []fault {
	return []fault{
		{"short", cut(3), -1, api.ErrShort},
		{"Cmd", set(0, "\x03"), 0, api.ErrKind},
		{"Ver", set(1, "\x00"), 1, api.ErrKind},
		{"zero", set(3, "\x01"), 2, api.ErrZero},
		{"ragged", func(b string) string { return b + more[:5] }, -1, api.ErrShort},
		{"none", cut(4), -1, api.ErrCount},
		{"many", func(b string) string { return b + strings.Repeat(more, 26) }, 504, api.ErrCount},
	}
}

// faults1 are the errors of an entry of the version 1 at at, in their order.
func faults1(at int) []fault {
	return []fault{
		{"kind", set(at, "\xff\xff"), at, api.ErrKind},
		{"all", set(at, "\x00\x00"), at, api.ErrForm},
		{"zero", set(at+15, "\x01"), at, api.ErrZero},
		{"range", set(at+16, "\x00\x00\x00\x00"), at, api.ErrRange},
	}
}

// faults2 are the errors of an entry of the version 2 at at, in their order.
func faults2(at int) []fault {
	return []fault{
		{"kind", set(at, "\x00\x03"), at, api.ErrKind},
		{"all", set(at, "\x00\x00"), at, api.ErrForm},
		{"prefix", set(at+7, "\x01"), at, api.ErrForm},
		{"mask", set(at+8, "\x0f"), at, api.ErrForm},
		{"range", set(at+16, "\x80\x00\x00\x00"), at, api.ErrRange},
	}
}

// checkFaults holds each fault of l, alone and with each one behind it, to be
// told. The one behind is made first, so that the first one still stands.
func checkFaults(t *testing.T, b string, l []fault) {
	t.Helper()
	l = append(l, fault{"nothing more", func(b string) string { return b }, 0, api.OK})
	for i, f := range l[:len(l)-1] {
		for _, g := range l[i+1:] {
			s := f.make(g.make(b))
			at := f.at
			if at < 0 {
				at = len(s)
			}
			checkError(t, fmt.Sprint(f.what, " at ", f.at, ", and ", g.what, " at ", g.at), s, at, f.err)
			checkTold(t, s)
		}
	}
}

// Of two errors at once the first one is told, whether they are of the whole,
// of one entry, or of two.
func TestP10_2TwoFaults(t *testing.T) {
	l := headFaults(entry1)
	for at := 4; at < 84; at += 20 {
		l = append(l, faults1(at)...)
	}
	checkFaults(t, head1+strings.Repeat(entry1, 4), l)
	checkFaults(t, ask1+strings.Repeat(entry1, 4), l)
	l = headFaults(entry2)
	for at := 4; at < 84; at += 20 {
		l = append(l, faults2(at)...)
	}
	checkFaults(t, head2+strings.Repeat(entry2, 4), l)
	checkFaults(t, ask2+strings.Repeat(entry2, 4), l)
}

// The same behind an entry of authentication, that may be alone.
func TestP10_2TwoFaultsWithAuth(t *testing.T) {
	l := append(headFaults(entry2), fault{"Auth alone", cut(24), -1, api.ErrCount})
	for at := 24; at < 84; at += 20 {
		l = append(l, fault{"Auth again", set(at, "\xff\xff"), at, api.ErrKind})
		l = append(l, faults2(at)...)
	}
	checkFaults(t, head2+says+strings.Repeat(entry2, 3), l)
	checkFaults(t, ask2+says+strings.Repeat(entry2, 3), l)
}

// Bytes of all kinds, near datagrams that may be, against the sentences of the
// chapter one by one.
func TestP10_2Told(t *testing.T) {
	r := rand.New(rand.NewSource(3))
	parts := []string{says, entry1, entry2, entryAll, head1, head2, "\xff\xff", "\x00\x00", "\x00\x02", "\x00\x00\x00\x11", "\x00", "\x01", "\xff"}
	for range 100000 {
		b := spelled(someRoutes(r))
		for range r.Intn(4) {
			part := parts[r.Intn(len(parts))]
			if r.Intn(3) == 0 {
				part = someBytes(r, 1+r.Intn(3))
			}
			at := r.Intn(len(b) + 1)
			if r.Intn(2) == 0 {
				at = min(len(b), 4+20*r.Intn(26))
			}
			switch r.Intn(8) {
			case 0:
				b = b[:at]
			case 1:
				b = b[:at] + part + b[at:]
			default:
				b = b[:at] + part + b[min(len(b), at+len(part)):]
			}
		}
		checkTold(t, b)
	}
}

// Bytes without any sense, of all sizes near the edges.
func TestP10_2Noise(t *testing.T) {
	r := rand.New(rand.NewSource(4))
	for n := range 600 {
		for range 20 {
			b := someBytes(r, n)
			checkTold(t, b)
			if n >= 4 {
				checkTold(t, over(b, 0, head2))
				checkTold(t, over(b, 0, ask1))
			}
		}
	}
}

// A call hangs on its argument alone.
func TestP10_2Again(t *testing.T) {
	for range 3 {
		checkRoutes(t, head2+says+entry2, []api.Msg{secret})
		checkError(t, "again", head2+says, 24, api.ErrCount)
		checkRoutes(t, head2+entry2, []api.Msg{route2})
		checkRoutes(t, head1+entry1, []api.Msg{route1})
		checkError(t, "again", "", 0, api.ErrShort)
	}
}
