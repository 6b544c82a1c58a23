package rip

import (
	"slices"
	"strings"
	"testing"

	"roadbook/api"
	"roadbook/msg"
)

// ask1Route and ask2Route are requests for one route, that stand next to all1
// and all2 but for the family.
var (
	ask1Route = api.Msg{Kind: api.RipRoute, Cmd: 1, Ver: 1, Family: 2, Prefix: nought, Plen: 32, Next: nought, Metric: 16}
	ask2Route = api.Msg{Kind: api.RipRoute, Cmd: 1, Ver: 2, Family: 2, Prefix: nought, Plen: 0, Next: nought, Metric: 16}
)

// bad is a route that may not be.
var bad = api.Msg{Kind: api.RipRoute, Cmd: 2, Ver: 2, Family: 2, Prefix: "\x0a\x01\x02\x00", Plen: 23, Next: "\x0a\x00\x00\x01", Metric: 17}

// put is l with m in the place of what stands at at.
func put(l []api.Msg, at int, m api.Msg) []api.Msg {
	l = slices.Clone(l)
	l[at] = m
	return l
}

func TestP10_1EncodeExamples(t *testing.T) {
	checkDatagram(t, []api.Msg{route1}, head1+entry1)
	checkDatagram(t, []api.Msg{route2}, head2+entry2)
	checkDatagram(t, []api.Msg{secret}, head2+says+entry2)
	checkDatagram(t, []api.Msg{route1, route1}, head1+entry1+entry1)
	checkDatagram(t, []api.Msg{all1}, ask1+entryAll)
	checkDatagram(t, []api.Msg{all2}, ask2+entryAll)
	checkDatagram(t, []api.Msg{withAuth(all2, said)}, ask2+says+entryAll)
	checkDatagram(t, []api.Msg{ask1Route}, ask1+"\x00\x02"+entryAll[2:])
	checkDatagram(t, []api.Msg{ask2Route}, ask2+"\x00\x02"+entryAll[2:])
}

// A mask is laid for each length, of the version 2 alone.
func TestP10_1EncodeMask(t *testing.T) {
	for plen := range 33 {
		m := with(route2, func(m *api.Msg) { m.Prefix, m.Plen = maskText(plen), plen })
		checkDatagram(t, []api.Msg{m}, head2+"\x00\x02\x01\x02"+maskText(plen)+maskText(plen)+"\x0a\x00\x00\x01\x00\x00\x00\x05")
	}
	checkDatagram(t, []api.Msg{with(route1, func(m *api.Msg) { m.Ver = 2 })}, head2+over(entry1, 8, "\xff\xff\xff\xff"))
}

// There may be up to 25 routes, with Auth 24.
func TestP10_1EncodeCount(t *testing.T) {
	checkRefused(t, "nil", nil, 0, api.ErrCount)
	checkRefused(t, "empty", []api.Msg{}, 0, api.ErrCount)
	checkRefused(t, "empty, with room", make([]api.Msg, 0, 4), 0, api.ErrCount)
	for n := 1; n <= 60; n++ {
		for _, c := range []struct {
			m           api.Msg
			head, entry string
			most        int
		}{{route1, head1, entry1, 25}, {route2, head2, entry2, 25}, {secret, head2 + says, entry2, 24}} {
			l := times(c.m, n)
			if n <= c.most {
				checkDatagram(t, l, c.head+timesEntry(c.entry, n))
			} else {
				checkRefused(t, "too many", l, c.most, api.ErrCount)
			}
		}
	}
	checkRefused(t, "very many", times(secret, 1<<14), 24, api.ErrCount)
}

// The numbers that the chapter turns on, each by itself.
func TestP10_1EncodeCountEdges(t *testing.T) {
	checkDatagram(t, times(route2, 24), head2+timesEntry(entry2, 24))
	checkDatagram(t, times(route2, 25), head2+timesEntry(entry2, 25))
	checkRefused(t, "26", times(route2, 26), 25, api.ErrCount)
	checkRefused(t, "30", times(route2, 30), 25, api.ErrCount)
	checkDatagram(t, times(secret, 24), head2+says+timesEntry(entry2, 24))
	checkRefused(t, "25, with Auth", times(secret, 25), 24, api.ErrCount)
	checkRefused(t, "26, with Auth", times(secret, 26), 24, api.ErrCount)
	checkRefused(t, "30, with Auth", times(secret, 30), 24, api.ErrCount)
}

// What may not be is told first, wherever it is, and the first one of them.
func TestP10_1EncodeArg(t *testing.T) {
	for _, m := range []api.Msg{route1, route2, secret} {
		for _, n := range []int{1, 2, 24, 25, 26, 30} {
			for at := range n {
				l := put(times(m, n), at, bad)
				checkRefused(t, "one bad", l, at, api.ErrArg)
				checkRefused(t, "the last one bad too", put(l, n-1, api.Msg{}), at, api.ErrArg)
			}
		}
	}
	checkRefused(t, "ahead of a count", put(times(route2, 30), 29, bad), 29, api.ErrArg)
	checkRefused(t, "ahead of the form", []api.Msg{route2, route1, bad}, 2, api.ErrArg)
	checkRefused(t, "ahead of both", put(put(times(route2, 30), 1, route1), 29, bad), 29, api.ErrArg)
}

// Each of Cmd, Ver and Auth is the first one's.
func TestP10_1EncodeTogether(t *testing.T) {
	other := "\x00\x02abcdefghijklmnoq"
	pairs := []struct {
		what string
		a, b api.Msg
	}{
		{"Cmd, version 1", route1, with(route1, func(m *api.Msg) { m.Cmd = 1 })},
		{"Cmd, version 2", route2, with(route2, func(m *api.Msg) { m.Cmd = 1 })},
		{"Cmd, with Auth", secret, with(secret, func(m *api.Msg) { m.Cmd = 1 })},
		{"Ver", route1, with(route1, func(m *api.Msg) { m.Ver = 2 })},
		{"Auth, or none", route2, secret},
		{"Auth, another one", secret, withAuth(secret, other)},
		{"Auth, noughts or none", route2, withAuth(route2, strings.Repeat("\x00", 18))},
		{"Cmd and Ver", route1, with(route2, func(m *api.Msg) { m.Cmd = 1 })},
	}
	for _, p := range pairs {
		checkRefused(t, p.what, []api.Msg{p.a, p.b}, 1, api.ErrForm)
		checkRefused(t, p.what, []api.Msg{p.b, p.a}, 1, api.ErrForm)
		for at := 1; at < 24; at++ {
			checkRefused(t, p.what, put(times(p.a, 24), at, p.b), at, api.ErrForm)
			checkRefused(t, p.what, put(times(p.b, 24), at, p.a), at, api.ErrForm)
			checkRefused(t, p.what, put(times(p.a, 30), at, p.b), at, api.ErrForm)
		}
	}
}

// A route of the family 0 stands alone: those behind it don't stand with it,
// and it doesn't with those ahead.
func TestP10_1EncodeAll(t *testing.T) {
	pairs := [][2]api.Msg{
		{all1, ask1Route}, {all2, ask2Route}, {withAuth(all2, said), withAuth(ask2Route, said)},
		{all1, all1}, {all2, all2}, {withAuth(all2, said), withAuth(all2, said)}, {all1, all2},
	}
	for _, p := range pairs {
		checkRefused(t, "family 0 first", []api.Msg{p[0], p[1]}, 1, api.ErrForm)
		checkRefused(t, "family 0 behind", []api.Msg{p[1], p[0]}, 1, api.ErrForm)
	}
	for at := 1; at < 24; at++ {
		checkRefused(t, "family 0 later", put(times(ask1Route, 24), at, all1), at, api.ErrForm)
		checkRefused(t, "family 0 later", put(times(ask2Route, 30), at, all2), at, api.ErrForm)
		checkRefused(t, "family 0 ahead", put(times(ask2Route, at+1), 0, all2), 1, api.ErrForm)
	}
	checkRefused(t, "family 0 thirty times", times(all2, 30), 1, api.ErrForm)
}

// Route by route: what doesn't stand together is told ahead of one too many,
// if it stands ahead; at the same place it is one too many.
func TestP10_1EncodeCountOrForm(t *testing.T) {
	ask := with(route2, func(m *api.Msg) { m.Cmd = 1 })
	checkRefused(t, "form ahead of the count", put(times(route2, 26), 24, ask), 24, api.ErrForm)
	checkRefused(t, "count and form", put(times(route2, 26), 25, ask), 25, api.ErrCount)
	checkRefused(t, "count ahead of the form", put(times(route2, 27), 26, ask), 25, api.ErrCount)
	ask = withAuth(ask, said)
	checkRefused(t, "form ahead of the count, with Auth", put(times(secret, 26), 23, ask), 23, api.ErrForm)
	checkRefused(t, "count and form, with Auth", put(times(secret, 26), 24, ask), 24, api.ErrCount)
	checkRefused(t, "count ahead of the form, with Auth", put(times(secret, 26), 25, ask), 24, api.ErrCount)
	// How many there may be hangs on the first one's Auth alone.
	checkRefused(t, "Auth at the 25th", put(times(route2, 26), 24, secret), 24, api.ErrForm)
	checkRefused(t, "Auth at the 26th", put(times(route2, 26), 25, secret), 25, api.ErrCount)
	checkRefused(t, "no Auth at the 24th", put(times(secret, 26), 23, route2), 23, api.ErrForm)
	checkRefused(t, "no Auth at the 25th", put(times(secret, 26), 24, route2), 24, api.ErrCount)
	checkRefused(t, "family 0 at the 26th", put(times(ask2Route, 26), 25, all2), 25, api.ErrCount)
	checkRefused(t, "family 0 at the 25th", put(times(ask2Route, 26), 24, all2), 24, api.ErrForm)
}

// What is handed in stays as it was, its spare room too.
func TestP10_1EncodeKeepsNothing(t *testing.T) {
	for _, l := range [][]api.Msg{times(route2, 3), times(secret, 25), {route2, bad}, {route2, route1}, {all1}} {
		room := make([]api.Msg, len(l)+4)
		for i := range room {
			room[i] = with(secret, func(m *api.Msg) { m.Metric = 100 + i })
		}
		copy(room, l)
		before := slices.Clone(room)
		Encode(room[:len(l)])
		Encode(room[:len(l):len(l)])
		if !msg.SameAll(room, before) {
			t.Errorf("Encode changed %+v to %+v", before, room)
		}
	}
}

// A call hangs on its argument alone.
func TestP10_1EncodeAgain(t *testing.T) {
	for range 3 {
		checkRefused(t, "again", []api.Msg{secret, route2}, 1, api.ErrForm)
		checkDatagram(t, []api.Msg{secret}, head2+says+entry2)
		checkRefused(t, "again", nil, 0, api.ErrCount)
		checkDatagram(t, []api.Msg{route2}, head2+entry2)
		checkRefused(t, "again", []api.Msg{bad}, 0, api.ErrArg)
		checkDatagram(t, []api.Msg{all1}, ask1+entryAll)
	}
}
