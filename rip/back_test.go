package rip

import (
	"math/rand"
	"strings"
	"testing"

	"roadbook/api"
	"roadbook/msg"
)

// checkBack holds l, which may be and stands together, to come back of its
// datagram, and the datagram of what it says.
func checkBack(t *testing.T, l []api.Msg) {
	t.Helper()
	b, _, err := Encode(l)
	if err != api.OK {
		t.Errorf("Encode(%+v) tells the error %d", l, err)
		return
	}
	back, at, err := Parse(b)
	if err != api.OK || at != 0 || !msg.SameAll(back, l) {
		t.Errorf("%+v comes back of %q as %+v, %d, %d", l, b, back, at, err)
	}
	again, at, err := Encode(back)
	if err != api.OK || at != 0 || again != b {
		t.Errorf("%q comes back of %+v as %q, %d, %d", b, back, again, at, err)
	}
}

// checkBytesBack holds b, if it is a datagram, to come back of its routes, each
// of which may be; if it is none, to be nothing at a place within it.
func checkBytesBack(t *testing.T, b string) {
	t.Helper()
	l, at, err := Parse(b)
	if err != api.OK {
		if len(l) != 0 || at < 0 || at > len(b) {
			t.Errorf("%q, with the error %d: %+v, at %d", b, err, l, at)
		}
		return
	}
	for _, m := range l {
		checkRight(t, "read", m, true)
	}
	if again, at, err := Encode(l); err != api.OK || at != 0 || again != b {
		t.Errorf("%q comes back of %+v as %q, %d, %d", b, l, again, at, err)
	}
}

func TestP10_3Examples(t *testing.T) {
	for _, m := range []api.Msg{route1, route2, secret, ask1Route, ask2Route} {
		for _, n := range []int{1, 2, 23, 24} {
			checkBack(t, times(m, n))
		}
	}
	checkBack(t, times(route1, 25))
	checkBack(t, times(route2, 25))
	for _, m := range []api.Msg{all1, all2, withAuth(all2, said), withAuth(all2, strings.Repeat("\x00", 18))} {
		checkBack(t, []api.Msg{m})
	}
}

// Each field at its ends comes back.
func TestP10_3Ends(t *testing.T) {
	for _, tag := range []int{0, 1, 255, 256, 65534, 65535} {
		for plen := range 33 {
			for _, metric := range []int{1, 2, 15, 16} {
				m := with(route2, func(m *api.Msg) { m.Tag, m.Prefix, m.Plen, m.Metric = tag, maskText(plen), plen, metric })
				checkBack(t, []api.Msg{m, m})
				checkBack(t, []api.Msg{withAuth(m, said), withAuth(m, said)})
			}
		}
	}
}

// Routes of all kinds come back.
func TestP10_3RoutesComeBack(t *testing.T) {
	r := rand.New(rand.NewSource(5))
	for range 20000 {
		checkBack(t, someRoutes(r))
	}
}

// Routes that differ have datagrams that do.
func TestP10_3OthersHaveOthers(t *testing.T) {
	changes := []func(m *api.Msg){
		func(m *api.Msg) {},
		func(m *api.Msg) { m.Cmd = 1 },
		func(m *api.Msg) { m.Tag = 259 },
		func(m *api.Msg) { m.Prefix = "\x0a\x01\x04\x00" },
		func(m *api.Msg) { m.Plen = 24 },
		func(m *api.Msg) { m.Plen = 32 },
		func(m *api.Msg) { m.Next = nought },
		func(m *api.Msg) { m.Metric = 6 },
		func(m *api.Msg) { m.Auth = said },
		func(m *api.Msg) { m.Auth = strings.Repeat("\x00", 18) },
	}
	seen := map[string]bool{}
	for _, change := range changes {
		b, _, err := Encode([]api.Msg{with(route2, change)})
		if err != api.OK || seen[b] {
			t.Errorf("%q, with the error %d, is another's as well", b, err)
		}
		seen[b] = true
	}
}

// Datagrams, and bytes that are almost such, come back byte for byte, or are
// nothing.
func TestP10_3BytesComeBack(t *testing.T) {
	for _, b := range []string{head1 + entry1, head2 + entry2, head2 + says + entry2, ask1 + entryAll, ask2 + entryAll, ask2 + says + entryAll} {
		checkBytesBack(t, b)
		for at := range len(b) {
			for v := range 256 {
				checkBytesBack(t, over(b, at, num(v, 1)))
			}
		}
	}
	r := rand.New(rand.NewSource(6))
	for range 50000 {
		b := spelled(someRoutes(r))
		checkBytesBack(t, b)
		for range 3 {
			b = over(b, r.Intn(len(b)), someBytes(r, 1))
			checkBytesBack(t, b)
		}
	}
}
