package ripng

import (
	"encoding/binary"
	"fmt"
	"math"
	"math/rand"
	"net/netip"
	"slices"
	"strings"
	"testing"

	"roadbook/api"
	"roadbook/msg"
)

const (
	nought = "\x00\x00\x00\x00\x00\x00\x00\x00\x00\x00\x00\x00\x00\x00\x00\x00"
	full   = "\xff\xff\xff\xff\xff\xff\xff\xff\xff\xff\xff\xff\xff\xff\xff\xff"
	// net is an address whose bits from the 35th on are 0.
	net = "\x20\x01\x0d\xb8\x20\x00\x00\x00\x00\x00\x00\x00\x00\x00\x00\x00"
	// near1, near2 and near3 are link-local, and far is not.
	near1 = "\xfe\x80\x00\x00\x00\x00\x00\x00abcdefgh"
	near2 = "\xfe\x80\x00\x00\x00\x00\x00\x00abcdefgi"
	near3 = "\xfe\x80\x00\x00\x00\x00\x00\x00\x00\x00\x00\x00\x00\x00\x00\x00"
	far   = "\x20\x01\x0d\xb8\x00\x00\x00\x00abcdefgh"
	// entry1 is an entry of a route, whose fields are others than the ones
	// next to them; entry2 is another one's.
	entry1 = net + "\x01\x02\x23\x05"
	entry2 = nought + "\x00\x00\x00\x10"
	// hop0, hop1, hop2, hop3 and hopFar are entries of a next hop.
	hopTail = "\x00\x00\x00\xff"
	hop0    = nought + hopTail
	hop1    = near1 + hopTail
	hop2    = near2 + hopTail
	hop3    = near3 + hopTail
	hopFar  = far + hopTail
	// head stands ahead of an answer, ask ahead of a request.
	head = "\x02\x01\x00\x00"
	ask  = "\x01\x01\x00\x00"
	// most is how many entries a datagram has at most.
	most = 3276
)

// route1 and route2 are what entry1 and entry2 say behind head; wish is what
// entry1 says behind ask; by1 and by2 are route1 behind hop1 and hop2.
var (
	route1 = api.Msg{Kind: api.NgRoute, Cmd: 2, Tag: 258, Prefix: net, Plen: 35, Next: nought, Metric: 5}
	route2 = api.Msg{Kind: api.NgRoute, Cmd: 2, Prefix: nought, Next: nought, Metric: 16}
	wish   = api.Msg{Kind: api.NgRoute, Cmd: 1, Tag: 258, Prefix: net, Plen: 35, Next: nought, Metric: 5}
	by1    = api.Msg{Kind: api.NgRoute, Cmd: 2, Tag: 258, Prefix: net, Plen: 35, Next: near1, Metric: 5}
	by2    = api.Msg{Kind: api.NgRoute, Cmd: 2, Tag: 258, Prefix: net, Plen: 35, Next: near2, Metric: 5}
)

// ends are numbers at the ends of their types, and such as come out within a
// field's size, if only their last bytes are looked at.
var ends = []int{
	math.MinInt, math.MinInt + 1, math.MinInt + 2, -1<<32 + 1, -1<<32 + 2, -1 << 31, -65536 + 2, -65535, -256 + 1, -256 + 2, -255,
	1<<16 + 1, 1<<16 + 2, 1<<16 + 5, 1<<16 + 35, 1<<32 + 1, 1<<32 + 2, 1<<32 + 16, 1<<32 + 35, math.MaxInt - 1, math.MaxInt,
}

// with is m with what change sets.
func with(m api.Msg, change func(m *api.Msg)) api.Msg {
	change(&m)
	return m
}

// by is m with that next hop.
func by(m api.Msg, next string) api.Msg {
	m.Next = next
	return m
}

// over is s with what stands from at on replaced by part.
func over(s string, at int, part string) string {
	return s[:at] + part + s[at+len(part):]
}

// put is l with m in the place of what stands at at.
func put(l []api.Msg, at int, m api.Msg) []api.Msg {
	l = slices.Clone(l)
	l[at] = m
	return l
}

// times is n times m, each with a metric of its own.
func times(m api.Msg, n int) []api.Msg {
	l := make([]api.Msg, n)
	for i := range l {
		l[i] = m
		l[i].Metric = i%16 + 1
	}
	return l
}

// turns is n times m, each with another next hop than the one ahead.
func turns(m api.Msg, n int) []api.Msg {
	l := times(m, n)
	for i := range l {
		l[i].Next = []string{near1, near2}[i%2]
	}
	return l
}

// num is n as so many bytes, by the standard library.
func num(n, size int) string {
	b := make([]byte, 8)
	binary.BigEndian.PutUint64(b, uint64(n))
	return string(b[8-size:])
}

// value is the number that the bytes of s make, by the standard library.
func value(s string) int {
	b := make([]byte, 8)
	copy(b[8-len(s):], s)
	return int(binary.BigEndian.Uint64(b))
}

// cut is addr, of 16 bytes, with all bits behind the first plen 0, by the
// standard library.
func cut(addr string, plen int) string {
	a, _ := netip.AddrFromSlice([]byte(addr))
	p, _ := a.Prefix(plen)
	b := p.Masked().Addr().As16()
	return string(b[:])
}

// oneBit is the address whose bits are 0, but for that one.
func oneBit(bit int) string {
	return over(nought, bit/8, num(1<<(7-bit%8), 1))
}

// isNear tells whether addr, of 16 bytes, is link-local.
func isNear(addr string) bool {
	return value(addr[:2]) == 0xfe80 && addr[2:8] == "\x00\x00\x00\x00\x00\x00"
}

// spelled is the datagram of the routes of l, which may be, and stand together,
// written down field by field.
func spelled(l []api.Msg) string {
	var b strings.Builder
	b.WriteString(num(l[0].Cmd, 1) + "\x01\x00\x00")
	for i, m := range l {
		if i == 0 && m.Next != nought || i > 0 && m.Next != l[i-1].Next {
			b.WriteString(m.Next + "\x00\x00\x00\xff")
		}
		b.WriteString(m.Prefix + num(m.Tag, 2) + num(m.Plen, 1) + num(m.Metric, 1))
	}
	return b.String()
}

// told is what Parse should tell of b, gone through sentence by sentence.
func told(b string) ([]api.Msg, int, api.Errno) {
	end := len(b)
	if end > 65535 {
		return nil, 65535, api.ErrLong
	}
	if end < 4 {
		return nil, end, api.ErrShort
	}
	cmd := int(b[0])
	if cmd != 1 && cmd != 2 {
		return nil, 0, api.ErrKind
	}
	if b[1] != 1 {
		return nil, 1, api.ErrKind
	}
	if b[2] != 0 || b[3] != 0 {
		return nil, 2, api.ErrZero
	}
	if (end-4)%20 != 0 {
		return nil, end, api.ErrShort
	}
	var l []api.Msg
	next := nought
	for at := 4; at < end; at += 20 {
		m := api.Msg{Kind: 2, Cmd: cmd, Next: next}
		err := toldEntry(&m, b[at:at+20])
		if err != api.OK {
			return nil, at, err
		}
		next = m.Next
		if m.Metric != 0 {
			l = append(l, m)
		}
	}
	if len(l) == 0 {
		return nil, end, api.ErrCount
	}
	return l, 0, api.OK
}

// toldEntry sets m's fields by the entry s, or tells its error. Of a next hop
// it sets Next alone.
func toldEntry(m *api.Msg, s string) api.Errno {
	addr, tag, family, metric := s[:16], value(s[16:18]), int(s[18]), int(s[19])
	if metric == 255 {
		if tag != 0 || family != 0 {
			return api.ErrZero
		}
		m.Next = nought
		if isNear(addr) {
			m.Next = addr
		}
		return api.OK
	}
	if family > 128 || cut(addr, family) != addr {
		return api.ErrForm
	}
	if metric < 1 || metric > 16 {
		return api.ErrRange
	}
	m.Prefix, m.Tag, m.Plen, m.Metric = addr, tag, family, metric
	return api.OK
}

// checkRoutes holds Parse to say that b has the routes of want.
func checkRoutes(t *testing.T, b string, want []api.Msg) {
	t.Helper()
	l, at, err := Parse(b)
	if err != api.OK || at != 0 || !msg.SameAll(l, want) {
		t.Errorf("Parse of %d bytes, %q, = %d routes, %d, %d; want %d", len(b), b[:min(len(b), 84)], len(l), at, err, len(want))
	}
}

// checkError holds Parse to tell that error of b, at that place.
func checkError(t *testing.T, what, b string, where int, want api.Errno) {
	t.Helper()
	l, at, err := Parse(b)
	if err != want || at != where || len(l) != 0 {
		t.Errorf("%s: Parse of %d bytes, %q, = %d routes, at %d, error %d; want at %d, error %d", what, len(b), b[:min(len(b), 84)], len(l), at, err, where, want)
	}
}

// checkTold holds Parse against told, whatever b is, and what it answers
// against the other calls.
func checkTold(t *testing.T, b string) {
	t.Helper()
	want, where, fault := told(b)
	if fault != api.OK {
		checkError(t, "told", b, where, fault)
		return
	}
	checkRoutes(t, b, want)
	for _, m := range want {
		checkRight(t, "told", m, true)
	}
	checkDatagram(t, want, spelled(want))
}

// checkRight holds what Right answers against what it should.
func checkRight(t *testing.T, what string, m api.Msg, want bool) {
	t.Helper()
	if Right(m) != want {
		t.Errorf("%s: Right(%+v) = %t", what, m, !want)
	}
}

// checkDatagram holds Encode to say that want is the datagram of l.
func checkDatagram(t *testing.T, l []api.Msg, want string) {
	t.Helper()
	b, at, err := Encode(l)
	if err != api.OK || at != 0 || b != want {
		t.Errorf("Encode of %d routes, %+v, = %d bytes, %q, %d, %d; want %d, %q", len(l), l[:min(len(l), 3)], len(b), b[:min(len(b), 84)], at, err, len(want), want[:min(len(want), 84)])
	}
}

// checkRefused holds Encode to tell that error of l, at that place.
func checkRefused(t *testing.T, what string, l []api.Msg, where int, want api.Errno) {
	t.Helper()
	b, at, err := Encode(l)
	if err != want || at != where || b != "" {
		t.Errorf("%s: Encode of %d routes = %d bytes, at %d, error %d; want at %d, error %d", what, len(l), len(b), at, err, where, want)
	}
}

// checkAlike holds what Right and Encode say of one route against each other,
// and against want.
func checkAlike(t *testing.T, what string, m api.Msg, want bool) {
	t.Helper()
	checkRight(t, what, m, want)
	if want {
		checkDatagram(t, []api.Msg{m}, spelled([]api.Msg{m}))
	} else {
		checkRefused(t, what, []api.Msg{m}, 0, api.ErrArg)
	}
}

// numbers holds Right against want for each number that set sets in m: those
// near the ones that may be, and the ends.
func numbers(t *testing.T, what string, m api.Msg, set func(m *api.Msg, n int), want func(n int) bool) {
	t.Helper()
	list := slices.Clone(ends)
	for n := -140; n <= 400; n++ {
		list = append(list, n)
	}
	for n := 65500; n <= 65560; n++ {
		list = append(list, n)
	}
	for _, n := range list {
		checkAlike(t, fmt.Sprint(what, " ", n), with(m, func(m *api.Msg) { set(m, n) }), want(n))
	}
}

// only answers whether a number is one of those.
func only(those ...int) func(n int) bool {
	return func(n int) bool { return slices.Contains(those, n) }
}

// within answers whether a number is from low to high.
func within(low, high int) func(n int) bool {
	return func(n int) bool { return low <= n && n <= high }
}

// someBytes is n bytes, by a source that begins alike each time.
func someBytes(r *rand.Rand, n int) string {
	b := make([]byte, n)
	r.Read(b)
	return string(b)
}

// someNext is a next hop that may be, and often one that was ahead.
func someNext(r *rand.Rand) string {
	list := []string{nought, near1, near2, near3, near1[:8] + someBytes(r, 8)}
	return list[r.Intn(len(list))]
}

// someRoute is a route that may be, with that Cmd and that next hop.
func someRoute(r *rand.Rand, cmd int, next string) api.Msg {
	plen := r.Intn(129)
	return api.Msg{Kind: api.NgRoute, Cmd: cmd, Tag: r.Intn(65536), Prefix: cut(someBytes(r, 16), plen), Plen: plen, Next: next, Metric: 1 + r.Intn(16)}
}

// someRoutes is up to n routes that may be, and stand together.
func someRoutes(r *rand.Rand, n int) []api.Msg {
	cmd, next := 1+r.Intn(2), nought
	var l []api.Msg
	for range 1 + r.Intn(n) {
		if r.Intn(2) == 0 {
			next = someNext(r)
		}
		l = append(l, someRoute(r, cmd, next))
	}
	return l
}

// someHops is entries of a next hop, of which there may be none.
func someHops(r *rand.Rand) string {
	var b strings.Builder
	for range max(0, r.Intn(5)-2) {
		next := someNext(r)
		if r.Intn(3) == 0 {
			next = someBytes(r, 16)
		}
		b.WriteString(next + hopTail)
	}
	return b.String()
}

// loose is bytes that say the routes of l, with entries of a next hop also
// where none is needed.
func loose(r *rand.Rand, l []api.Msg) string {
	var b strings.Builder
	b.WriteString(num(l[0].Cmd, 1) + "\x01\x00\x00")
	said := nought
	for _, m := range l {
		hops := someHops(r)
		b.WriteString(hops)
		if hops != "" || m.Next != said {
			b.WriteString(m.Next + hopTail)
		}
		said = m.Next
		b.WriteString(m.Prefix + num(m.Tag, 2) + num(m.Plen, 1) + num(m.Metric, 1))
	}
	b.WriteString(someHops(r))
	return b.String()
}
