package ripng

import (
	"slices"
	"testing"

	"roadbook/api"
	"roadbook/msg"
)

// bad is a route that may not be.
var bad = api.Msg{Kind: api.NgRoute, Cmd: 2, Tag: 258, Prefix: net, Plen: 35, Next: near1, Metric: 17}

func TestP12_1EncodeExamples(t *testing.T) {
	checkDatagram(t, []api.Msg{route1}, head+entry1)
	checkDatagram(t, []api.Msg{route2}, head+entry2)
	checkDatagram(t, []api.Msg{wish}, ask+entry1)
	checkDatagram(t, []api.Msg{route1, route2}, head+entry1+entry2)
	checkDatagram(t, []api.Msg{by1}, head+hop1+entry1)
	checkDatagram(t, []api.Msg{by1, by1}, head+hop1+entry1+entry1)
	checkDatagram(t, []api.Msg{by(wish, near2)}, ask+hop2+entry1)
}

// A next hop stands ahead of each route whose next hop isn't said already, and
// nowhere else.
func TestP12_1EncodeHops(t *testing.T) {
	hops := map[string]string{nought: hop0, near1: hop1, near2: hop2, near3: hop3}
	four := []string{nought, near1, near2, near3}
	for n := range 4 * 4 * 4 * 4 * 4 {
		want, said := head, nought
		var l []api.Msg
		for range 5 {
			next := four[n%4]
			n /= 4
			l = append(l, by(route1, next))
			if next != said {
				want += hops[next]
			}
			want, said = want+entry1, next
		}
		checkDatagram(t, l, want)
	}
}

// The ways of next hops that the chapter turns on, each by itself.
func TestP12_1EncodeHopEdges(t *testing.T) {
	checkDatagram(t, []api.Msg{route1, route1}, head+entry1+entry1)
	checkDatagram(t, []api.Msg{route1, by1}, head+entry1+hop1+entry1)
	checkDatagram(t, []api.Msg{by1, route1}, head+hop1+entry1+hop0+entry1)
	checkDatagram(t, []api.Msg{by1, by2}, head+hop1+entry1+hop2+entry1)
	checkDatagram(t, []api.Msg{by1, by2, by1}, head+hop1+entry1+hop2+entry1+hop1+entry1)
	checkDatagram(t, []api.Msg{route1, by1, by1, route1}, head+entry1+hop1+entry1+entry1+hop0+entry1)
	checkDatagram(t, []api.Msg{by1, route1, by1}, head+hop1+entry1+hop0+entry1+hop1+entry1)
	checkDatagram(t, []api.Msg{by(route1, near3), route1}, head+hop3+entry1+hop0+entry1)
	checkDatagram(t, []api.Msg{by1, by(route2, near1)}, head+hop1+entry1+entry2)
}

// Each length stands in the entry as it is.
func TestP12_1EncodePlen(t *testing.T) {
	for plen := range 129 {
		m := with(route1, func(m *api.Msg) { m.Prefix, m.Plen = cut(full, plen), plen })
		checkDatagram(t, []api.Msg{m}, head+cut(full, plen)+"\x01\x02"+num(plen, 1)+"\x05")
	}
}

func TestP12_1EncodeNone(t *testing.T) {
	checkRefused(t, "nil", nil, 0, api.ErrCount)
	checkRefused(t, "empty", []api.Msg{}, 0, api.ErrCount)
	checkRefused(t, "empty, with room", make([]api.Msg, 0, 4), 0, api.ErrCount)
}

// Lists of all lengths that are not too long.
func TestP12_1EncodeSizes(t *testing.T) {
	for n := 1; n <= 80; n++ {
		for _, m := range []api.Msg{route1, route2, wish, by1} {
			l := times(m, n)
			checkDatagram(t, l, spelled(l))
		}
		l := turns(route1, n)
		checkDatagram(t, l, spelled(l))
	}
}

// There may be as many entries as 65535 bytes have room for, those of next
// hops among them.
func TestP12_1EncodeLong(t *testing.T) {
	for _, n := range []int{most - 1, most, most + 1, most + 2, 4000} {
		checkMost(t, "no next hop", times(route1, n), most)
		checkMost(t, "a request", times(wish, n), most)
		checkMost(t, "one next hop", times(by1, n), most-1)
		checkMost(t, "one later", put(times(by1, n), 0, route1), most-1)
		checkMost(t, "one and back", put(times(route1, n), 0, by1), most-2)
	}
	for _, n := range []int{most/2 - 1, most / 2, most/2 + 1, most} {
		checkMost(t, "a next hop each", turns(route1, n), most/2)
	}
	for _, n := range []int{most/2 - 1, most / 2, most/2 + 1, most} {
		// Behind the first route there is one entry less, so that the last
		// one's next hop fits, and the route itself doesn't.
		checkMost(t, "a next hop each but the first", put(turns(route1, n), 0, route1), most/2)
	}
}

// checkMost holds l to have its datagram, if it has as many routes as there may
// be, or fewer, and to be refused at the next one else.
func checkMost(t *testing.T, what string, l []api.Msg, routes int) {
	t.Helper()
	if len(l) > routes {
		checkRefused(t, what, l, routes, api.ErrLong)
		return
	}
	checkDatagram(t, l, spelled(l))
}

// The numbers of bytes and of routes that the chapter turns on.
func TestP12_1EncodeLongEdges(t *testing.T) {
	b, _, err := Encode(times(route1, 3276))
	if err != api.OK || len(b) != 65524 {
		t.Errorf("3276 routes have %d bytes, error %d", len(b), err)
	}
	checkRefused(t, "3277 routes", times(route1, 3277), 3276, api.ErrLong)
	checkRefused(t, "very many", times(route1, 20000), 3276, api.ErrLong)
	checkRefused(t, "3276 routes by a next hop", times(by1, 3276), 3275, api.ErrLong)
	l := put(times(route1, 3276), 3275, by1)
	checkRefused(t, "the last one's next hop", l, 3275, api.ErrLong)
	checkDatagram(t, put(times(route1, 3275), 3274, by1), spelled(put(times(route1, 3275), 3274, by1)))
	checkRefused(t, "a next hop each", turns(route1, 1639), 1638, api.ErrLong)
}

// What may not be is told first, wherever it is, and the first one of them.
func TestP12_1EncodeArg(t *testing.T) {
	for _, m := range []api.Msg{route1, wish, by1} {
		for _, n := range []int{1, 2, 3, 40} {
			for at := range n {
				l := put(times(m, n), at, bad)
				checkRefused(t, "one bad", l, at, api.ErrArg)
				checkRefused(t, "the last one bad too", put(l, n-1, api.Msg{}), at, api.ErrArg)
			}
		}
	}
	checkRefused(t, "ahead of the form", []api.Msg{route1, wish, bad}, 2, api.ErrArg)
	checkRefused(t, "ahead of the length", put(times(route1, 4000), 3999, bad), 3999, api.ErrArg)
	checkRefused(t, "ahead of both", put(put(times(route1, 4000), 1, wish), 3999, bad), 3999, api.ErrArg)
	checkRefused(t, "bad, and of another Cmd", []api.Msg{route1, with(bad, func(m *api.Msg) { m.Cmd = 1 })}, 1, api.ErrArg)
}

// Each Cmd is the first one's.
func TestP12_1EncodeForm(t *testing.T) {
	for _, p := range [][2]api.Msg{{route1, wish}, {by1, by(wish, near1)}, {by1, wish}, {route1, by(wish, near2)}} {
		checkRefused(t, "Cmd", []api.Msg{p[0], p[1]}, 1, api.ErrForm)
		checkRefused(t, "Cmd", []api.Msg{p[1], p[0]}, 1, api.ErrForm)
		for at := 1; at < 40; at++ {
			checkRefused(t, "Cmd", put(times(p[0], 40), at, p[1]), at, api.ErrForm)
			checkRefused(t, "Cmd", put(times(p[1], 40), at, p[0]), at, api.ErrForm)
			checkRefused(t, "Cmd, twice", put(put(times(p[0], 41), 40, p[1]), at, p[1]), at, api.ErrForm)
		}
	}
	// It is held against the first one, not against the one ahead.
	checkRefused(t, "Cmd, and so on", []api.Msg{route1, route1, wish, wish, route1}, 2, api.ErrForm)
}

// Route by route: what isn't of the first one's Cmd is told ahead of what is too
// long, if it stands ahead, or at the same place.
func TestP12_1EncodeFormOrLong(t *testing.T) {
	checkRefused(t, "form ahead", put(times(route1, most+1), most-1, wish), most-1, api.ErrForm)
	checkRefused(t, "form and length", put(times(route1, most+1), most, wish), most, api.ErrForm)
	checkRefused(t, "length ahead", put(times(route1, most+2), most+1, wish), most, api.ErrLong)
	checkRefused(t, "form and length, by a next hop", put(times(by1, most), most-1, by(wish, near2)), most-1, api.ErrForm)
	checkRefused(t, "length ahead, by a next hop", put(times(by1, most+1), most, wish), most-1, api.ErrLong)
	checkRefused(t, "both at once", put(times(route1, most), most-1, by(wish, near1)), most-1, api.ErrForm)
}

// What is handed in stays as it was, its spare room too.
func TestP12_1EncodeKeepsNothing(t *testing.T) {
	for _, l := range [][]api.Msg{times(route1, 3), {by1, route1, by2}, {route1, bad}, {route1, wish}, times(by1, most+1)} {
		room := make([]api.Msg, len(l)+4)
		for i := range room {
			room[i] = with(by2, func(m *api.Msg) { m.Metric = 100 + i })
		}
		copy(room, l)
		before := slices.Clone(room)
		Encode(room[:len(l)])
		Encode(room[:len(l):len(l)])
		if !msg.SameAll(room, before) {
			t.Errorf("Encode changed %d routes", len(l))
		}
	}
}

// A call hangs on its argument alone: no next hop is kept from the one ahead.
func TestP12_1EncodeAgain(t *testing.T) {
	for range 3 {
		checkDatagram(t, []api.Msg{by1}, head+hop1+entry1)
		checkDatagram(t, []api.Msg{by1}, head+hop1+entry1)
		checkDatagram(t, []api.Msg{route1}, head+entry1)
		checkRefused(t, "again", []api.Msg{by1, wish}, 1, api.ErrForm)
		checkDatagram(t, []api.Msg{wish}, ask+entry1)
		checkRefused(t, "again", nil, 0, api.ErrCount)
		checkDatagram(t, []api.Msg{route1, route2}, head+entry1+entry2)
		checkRefused(t, "again", []api.Msg{bad}, 0, api.ErrArg)
		checkRefused(t, "again", times(by1, most), most-1, api.ErrLong)
	}
}
