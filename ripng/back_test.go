package ripng

import (
	"math/rand"
	"strings"
	"testing"

	"roadbook/api"
	"roadbook/msg"
)

// checkBack holds l, which may be and stands together, to come back of its
// datagram, and the datagram of what it says.
func checkBack(t *testing.T, l []api.Msg) {
	t.Helper()
	b, _, err := Encode(l)
	if err != api.OK {
		t.Errorf("Encode of %d routes, %+v, tells the error %d", len(l), l[:min(len(l), 3)], err)
		return
	}
	back, at, err := Parse(b)
	if err != api.OK || at != 0 || !msg.SameAll(back, l) {
		t.Errorf("%d routes, %+v, come back as %d, at %d, error %d", len(l), l[:min(len(l), 3)], len(back), at, err)
	}
	again, at, err := Encode(back)
	if err != api.OK || at != 0 || again != b {
		t.Errorf("%d bytes, %q, come back as %d, at %d, error %d", len(b), b[:min(len(b), 84)], len(again), at, err)
	}
}

// checkBytesBack holds b, if it is a datagram, to have routes that may be, and
// whose own datagram is no longer, and has them too; if it is none, to be
// nothing at a place within it.
func checkBytesBack(t *testing.T, b string) {
	t.Helper()
	l, at, err := Parse(b)
	if err != api.OK {
		if len(l) != 0 || at < 0 || at > len(b) {
			t.Errorf("%q, with the error %d: %+v, at %d", b, err, l, at)
		}
		return
	}
	for _, m := range l {
		checkRight(t, "read", m, true)
	}
	own, at, err := Encode(l)
	if err != api.OK || at != 0 || len(own) > len(b) {
		t.Errorf("%d bytes, %q, come back as %d, %q, at %d, error %d", len(b), b[:min(len(b), 84)], len(own), own[:min(len(own), 84)], at, err)
	}
	checkRoutes(t, own, l)
	checkBack(t, l)
}

func TestP12_3Examples(t *testing.T) {
	for _, m := range []api.Msg{route1, route2, wish, by1, by2, by(route2, near3)} {
		for _, n := range []int{1, 2, 3, 40} {
			checkBack(t, times(m, n))
			checkBack(t, turns(m, n))
		}
	}
	checkBack(t, []api.Msg{route1, by1, by1, route1, by2, by1, by(route2, near3)})
}

// As many routes as there may be come back.
func TestP12_3Long(t *testing.T) {
	for _, l := range [][]api.Msg{times(route1, most), times(wish, most), times(by1, most-1), turns(route1, most/2)} {
		checkBack(t, l)
	}
	for _, n := range []int{65504, 65524, 65535, 65536, 65544} {
		for _, part := range []string{entry1, hop1 + entry1, entry1 + hop0, hopFar + entry1 + hop2} {
			checkBytesBack(t, (head + strings.Repeat(part, 4000))[:n])
		}
	}
}

// Each field at its ends comes back.
func TestP12_3Ends(t *testing.T) {
	for _, tag := range []int{0, 1, 255, 256, 65534, 65535} {
		for plen := range 129 {
			for _, metric := range []int{1, 2, 15, 16} {
				m := with(route1, func(m *api.Msg) { m.Tag, m.Prefix, m.Plen, m.Metric = tag, cut(full, plen), plen, metric })
				checkBack(t, []api.Msg{m, m})
				checkBack(t, []api.Msg{by(m, near1), m, by(m, near2)})
			}
		}
	}
}

// Routes of all kinds come back.
func TestP12_3RoutesComeBack(t *testing.T) {
	r := rand.New(rand.NewSource(4))
	for range 10000 {
		checkBack(t, someRoutes(r, 12))
	}
	for range 20 {
		checkBack(t, someRoutes(r, 1500))
	}
}

// Routes that differ have datagrams that do.
func TestP12_3OthersHaveOthers(t *testing.T) {
	list := [][]api.Msg{
		{route1}, {wish}, {by1}, {by2}, {route2}, {by(route1, near3)}, {by(wish, near1)},
		{with(route1, func(m *api.Msg) { m.Tag = 259 })},
		{with(route1, func(m *api.Msg) { m.Prefix = over(net, 3, "\xb9") })},
		{with(route1, func(m *api.Msg) { m.Plen = 36 })},
		{with(route1, func(m *api.Msg) { m.Plen = 128 })},
		{with(route1, func(m *api.Msg) { m.Metric = 6 })},
		{route1, route1}, {route1, by1}, {by1, route1}, {by1, by1}, {by1, by2}, {by2, by1}, {route1, route2}, {route2, route1},
		{by1, by1, route1}, {by1, route1, route1}, {by1, route1, by1},
	}
	seen := map[string]bool{}
	for _, l := range list {
		b, _, err := Encode(l)
		if err != api.OK || seen[b] {
			t.Errorf("%+v: %q, with the error %d, is another's as well", l, b, err)
		}
		seen[b] = true
	}
}

// What is said in vain isn't written again: bytes with the same routes have one
// datagram, the shortest.
func TestP12_3NoLonger(t *testing.T) {
	for _, c := range []struct{ loose, own string }{
		{head + hop0 + entry1, head + entry1},
		{head + hopFar + entry1, head + entry1},
		{head + entry1 + hop1, head + entry1},
		{head + hop1 + hop2 + entry1, head + hop2 + entry1},
		{head + hop1 + hop0 + entry1 + entry1, head + entry1 + entry1},
		{head + hop1 + entry1 + hop1 + entry1, head + hop1 + entry1 + entry1},
		{head + hop1 + entry1 + hop2 + hop1 + entry1, head + hop1 + entry1 + entry1},
		{head + hop1 + entry1 + hopFar + entry1, head + hop1 + entry1 + hop0 + entry1},
		{head + hop1 + entry1 + hopFar + entry1 + hop0 + entry1, head + hop1 + entry1 + hop0 + entry1 + entry1},
	} {
		l, _, _ := Parse(c.loose)
		checkDatagram(t, l, c.own)
		checkBytesBack(t, c.loose)
	}
	r := rand.New(rand.NewSource(5))
	for range 10000 {
		l := someRoutes(r, 12)
		b := loose(r, l)
		checkRoutes(t, b, l)
		checkBytesBack(t, b)
	}
}

// Datagrams, and bytes that are almost such, come back, or are nothing.
func TestP12_3BytesComeBack(t *testing.T) {
	for _, b := range []string{head + entry1, ask + entry1, head + hop1 + entry1, head + hop1 + entry1 + hop0 + entry2} {
		checkBytesBack(t, b)
		for at := range len(b) {
			for v := range 256 {
				checkBytesBack(t, over(b, at, num(v, 1)))
			}
		}
	}
	r := rand.New(rand.NewSource(6))
	for range 5000 {
		b := loose(r, someRoutes(r, 8))
		for range 3 {
			b = over(b, r.Intn(len(b)), someBytes(r, 1))
			checkBytesBack(t, b)
		}
	}
}
