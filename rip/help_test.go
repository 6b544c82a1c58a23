package rip

import (
	"encoding/binary"
	"fmt"
	"math"
	"math/bits"
	"math/rand"
	"slices"
	"strings"
	"testing"

	"roadbook/api"
	"roadbook/msg"
)

const (
	nought = "\x00\x00\x00\x00"
	// said is what an entry of authentication says: the type 2, and a password.
	said = "\x00\x02abcdefghijklmnop"
	// says is the entry of authentication that says so.
	says = "\xff\xff" + said
	// entry1 and entry2 are entries of the family 2, in the version 1 and in
	// the version 2, whose fields are others than the ones next to them.
	entry1 = "\x00\x02\x00\x00\x0a\x01\x02\x03\x00\x00\x00\x00\x00\x00\x00\x00\x00\x00\x00\x05"
	entry2 = "\x00\x02\x01\x02\x0a\x01\x02\x00\xff\xff\xfe\x00\x0a\x00\x00\x01\x00\x00\x00\x05"
	// entryAll is the entry that asks for all of the table.
	entryAll = "\x00\x00\x00\x00\x00\x00\x00\x00\x00\x00\x00\x00\x00\x00\x00\x00\x00\x00\x00\x10"
	// head1 and head2 stand ahead of answers of the version 1 and of the
	// version 2; ask1 and ask2 ahead of requests.
	head1 = "\x02\x01\x00\x00"
	head2 = "\x02\x02\x00\x00"
	ask1  = "\x01\x01\x00\x00"
	ask2  = "\x01\x02\x00\x00"
)

// route1 and route2 are what entry1 and entry2 say behind head1 and head2;
// secret is route2 with what says tells; all1 and all2 are what entryAll says
// behind ask1 and ask2.
var (
	route1 = api.Msg{Kind: api.RipRoute, Cmd: 2, Ver: 1, Family: 2, Prefix: "\x0a\x01\x02\x03", Plen: 32, Next: nought, Metric: 5}
	route2 = api.Msg{Kind: api.RipRoute, Cmd: 2, Ver: 2, Family: 2, Tag: 258, Prefix: "\x0a\x01\x02\x00", Plen: 23, Next: "\x0a\x00\x00\x01", Metric: 5}
	secret = api.Msg{Kind: api.RipRoute, Cmd: 2, Ver: 2, Auth: said, Family: 2, Tag: 258, Prefix: "\x0a\x01\x02\x00", Plen: 23, Next: "\x0a\x00\x00\x01", Metric: 5}
	all1   = api.Msg{Kind: api.RipRoute, Cmd: 1, Ver: 1, Prefix: nought, Next: nought, Metric: 16}
	all2   = api.Msg{Kind: api.RipRoute, Cmd: 1, Ver: 2, Prefix: nought, Next: nought, Metric: 16}
)

// ends are numbers at the ends of their types, and such as come out within a
// field's size, if only their last bytes are looked at.
var ends = []int{
	math.MinInt, math.MinInt + 1, math.MinInt + 2, -1<<32 + 1, -1<<32 + 2, -1 << 31, -65536 + 2, -65535, -256 + 1, -256 + 2, -255,
	-32, -16, -2, -1, 1<<8 + 1, 1<<8 + 2, 1<<16 + 1, 1<<16 + 2, 1<<16 + 5, 1<<32 + 1, 1<<32 + 2, 1<<32 + 16, math.MaxInt - 1, math.MaxInt,
}

// with is m with what change sets.
func with(m api.Msg, change func(m *api.Msg)) api.Msg {
	change(&m)
	return m
}

// withAuth is m with that Auth.
func withAuth(m api.Msg, says string) api.Msg {
	m.Auth = says
	return m
}

// over is s with what stands from at on replaced by part.
func over(s string, at int, part string) string {
	return s[:at] + part + s[at+len(part):]
}

// times is n times m, each with a metric of its own, if it is of the family 2.
func times(m api.Msg, n int) []api.Msg {
	l := make([]api.Msg, n)
	for i := range l {
		l[i] = m
		if m.Family == 2 {
			l[i].Metric = i%16 + 1
		}
	}
	return l
}

// timesEntry is n times the entry s, of the family 2, with the same metrics.
func timesEntry(s string, n int) string {
	var b strings.Builder
	for i := range n {
		b.WriteString(s[:19] + string([]byte{byte(i%16 + 1)}))
	}
	return b.String()
}

// num is n as so many bytes, by the standard library.
func num(n, size int) string {
	b := make([]byte, 8)
	binary.BigEndian.PutUint64(b, uint64(n))
	return string(b[8-size:])
}

// value is the number that the bytes of s make, by the standard library.
func value(s string) int {
	b := make([]byte, 8)
	copy(b[8-len(s):], s)
	return int(binary.BigEndian.Uint64(b))
}

// maskText is the mask of the length n, by the standard library.
func maskText(n int) string {
	return num(int(^uint32(0)<<(32-n)), 4)
}

// spelled is the datagram of the routes of l, which may be, and stand together,
// written down field by field.
func spelled(l []api.Msg) string {
	var b strings.Builder
	b.WriteString(num(l[0].Cmd, 1) + num(l[0].Ver, 1) + "\x00\x00")
	if l[0].Auth != "" {
		b.WriteString("\xff\xff" + l[0].Auth)
	}
	for _, m := range l {
		mask := nought
		if m.Family == 2 && m.Ver == 2 {
			mask = maskText(m.Plen)
		}
		b.WriteString(num(m.Family, 2) + num(m.Tag, 2) + m.Prefix + mask + m.Next + num(m.Metric, 4))
	}
	return b.String()
}

// prefixOf is the length of that mask, and whether it is one, of a prefix that
// addr is.
func prefixOf(addr, mask string) (int, bool) {
	a, m := uint32(value(addr)), uint32(value(mask))
	n := bits.LeadingZeros32(^m)
	return n, maskText(n) == mask && a&^m == 0
}

// told is what Parse should tell of b, gone through sentence by sentence.
func told(b string) ([]api.Msg, int, api.Errno) {
	end := len(b)
	if end < 4 {
		return nil, end, api.ErrShort
	}
	cmd, ver := int(b[0]), int(b[1])
	if cmd != 1 && cmd != 2 {
		return nil, 0, api.ErrKind
	}
	if ver != 1 && ver != 2 {
		return nil, 1, api.ErrKind
	}
	if b[2] != 0 || b[3] != 0 {
		return nil, 2, api.ErrZero
	}
	if (end-4)%20 != 0 {
		return nil, end, api.ErrShort
	}
	if end == 4 {
		return nil, end, api.ErrCount
	}
	if end > 504 {
		return nil, 504, api.ErrCount
	}
	auth, from := "", 4
	if ver == 2 && b[4] == 255 && b[5] == 255 {
		auth, from = b[6:24], 24
		if end == 24 {
			return nil, end, api.ErrCount
		}
	}
	var l []api.Msg
	for at := from; at < end; at += 20 {
		m := api.Msg{Kind: 1, Cmd: cmd, Ver: ver, Auth: auth}
		err := toldEntry(&m, b[at:at+20], end == from+20)
		if err != api.OK {
			return nil, at, err
		}
		l = append(l, m)
	}
	return l, 0, api.OK
}

// toldEntry sets m's fields by the entry s, alone or not, or tells its error.
func toldEntry(m *api.Msg, s string, alone bool) api.Errno {
	m.Family, m.Tag, m.Prefix, m.Next, m.Metric = value(s[:2]), value(s[2:4]), s[4:8], s[12:16], value(s[16:])
	mask := s[8:12]
	if m.Family != 0 && m.Family != 2 {
		return api.ErrKind
	}
	if m.Family == 0 {
		if m.Cmd != 1 || s != entryAll || !alone {
			return api.ErrForm
		}
		return api.OK
	}
	if m.Ver == 1 {
		if s[2:4] != "\x00\x00" || mask != nought || m.Next != nought {
			return api.ErrZero
		}
		m.Plen = 32
	} else {
		n, ok := prefixOf(m.Prefix, mask)
		if !ok {
			return api.ErrForm
		}
		m.Plen = n
	}
	if m.Metric < 1 || m.Metric > 16 {
		return api.ErrRange
	}
	return api.OK
}

// checkRoutes holds Parse to say that b has the routes of want.
func checkRoutes(t *testing.T, b string, want []api.Msg) {
	t.Helper()
	l, at, err := Parse(b)
	if err != api.OK || at != 0 || !msg.SameAll(l, want) {
		t.Errorf("Parse(%q) = %+v, %d, %d; want %+v", b, l, at, err, want)
	}
}

// checkError holds Parse to tell that error of b, at that place.
func checkError(t *testing.T, what, b string, where int, want api.Errno) {
	t.Helper()
	l, at, err := Parse(b)
	if err != want || at != where || len(l) != 0 {
		t.Errorf("%s: Parse of %d bytes, %q, = %d routes, at %d, error %d; want at %d, error %d", what, len(b), b[:min(len(b), 64)], len(l), at, err, where, want)
	}
}

// checkTold holds Parse against told, whatever b is, and what it answers
// against the other calls.
func checkTold(t *testing.T, b string) {
	t.Helper()
	want, where, fault := told(b)
	if fault != api.OK {
		checkError(t, "told", b, where, fault)
		return
	}
	checkRoutes(t, b, want)
	for _, m := range want {
		checkRight(t, "told", m, true)
	}
	checkDatagram(t, want, b)
}

// checkRight holds what Right answers against what it should.
func checkRight(t *testing.T, what string, m api.Msg, want bool) {
	t.Helper()
	if Right(m) != want {
		t.Errorf("%s: Right(%+v) = %t", what, m, !want)
	}
}

// checkDatagram holds Encode to say that want is the datagram of l.
func checkDatagram(t *testing.T, l []api.Msg, want string) {
	t.Helper()
	b, at, err := Encode(l)
	if err != api.OK || at != 0 || b != want {
		t.Errorf("Encode(%+v) = %q, %d, %d; want %q", l, b, at, err, want)
	}
}

// checkRefused holds Encode to tell that error of l, at that place.
func checkRefused(t *testing.T, what string, l []api.Msg, where int, want api.Errno) {
	t.Helper()
	b, at, err := Encode(l)
	if err != want || at != where || b != "" {
		t.Errorf("%s: Encode of %d routes = %q, at %d, error %d; want at %d, error %d", what, len(l), b, at, err, where, want)
	}
}

// checkAlike holds what Right and Encode say of one route against each other,
// and against want.
func checkAlike(t *testing.T, what string, m api.Msg, want bool) {
	t.Helper()
	checkRight(t, what, m, want)
	if want {
		checkDatagram(t, []api.Msg{m}, spelled([]api.Msg{m}))
	} else {
		checkRefused(t, what, []api.Msg{m}, 0, api.ErrArg)
	}
}

// numbers holds Right against want for each number that set sets in m: those
// near the ones that may be, and the ends.
func numbers(t *testing.T, what string, m api.Msg, set func(m *api.Msg, n int), want func(n int) bool) {
	t.Helper()
	list := slices.Clone(ends)
	for n := -40; n <= 300; n++ {
		list = append(list, n)
	}
	for n := 65500; n <= 65560; n++ {
		list = append(list, n)
	}
	for _, n := range list {
		checkAlike(t, fmt.Sprint(what, " ", n), with(m, func(m *api.Msg) { set(m, n) }), want(n))
	}
}

// only answers whether a number is one of those.
func only(those ...int) func(n int) bool {
	return func(n int) bool { return slices.Contains(those, n) }
}

// within answers whether a number is from low to high.
func within(low, high int) func(n int) bool {
	return func(n int) bool { return low <= n && n <= high }
}

// someBytes is n bytes, by a source that begins alike each time.
func someBytes(r *rand.Rand, n int) string {
	b := make([]byte, n)
	r.Read(b)
	return string(b)
}

// someRoute is a route that may be, of the family 2, with that Cmd, Ver and Auth.
func someRoute(r *rand.Rand, cmd, ver int, auth string) api.Msg {
	m := api.Msg{Kind: api.RipRoute, Cmd: cmd, Ver: ver, Auth: auth, Family: 2, Metric: 1 + r.Intn(16)}
	addr := r.Uint32()
	if ver == 1 {
		m.Prefix, m.Plen, m.Next = num(int(addr), 4), 32, nought
		return m
	}
	m.Tag, m.Plen, m.Next = r.Intn(65536), r.Intn(33), someBytes(r, 4)
	m.Prefix = num(int(addr&^(^uint32(0)>>m.Plen)), 4)
	return m
}

// someRoutes is routes that may be, and stand together.
func someRoutes(r *rand.Rand) []api.Msg {
	cmd, ver, auth, most := 1+r.Intn(2), 1+r.Intn(2), "", 25
	if ver == 2 && r.Intn(2) == 0 {
		auth, most = someBytes(r, 18), 24
	}
	if r.Intn(8) == 0 {
		return []api.Msg{{Kind: api.RipRoute, Cmd: 1, Ver: ver, Auth: auth, Prefix: nought, Next: nought, Metric: 16}}
	}
	var l []api.Msg
	for range 1 + r.Intn(most) {
		l = append(l, someRoute(r, cmd, ver, auth))
	}
	return l
}
