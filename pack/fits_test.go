package pack

import (
	"math"
	"slices"
	"testing"

	"roadbook/api"
)

// One message fits into as many bytes as its datagram has, and no fewer; and
// never where it is none of the protocol.
func TestP27_1FitsOne(t *testing.T) {
	for _, v := range alones() {
		l := []api.Msg{v.m}
		n := len(v.bytes)
		for _, most := range []int{n, n + 1, 2 * n, 65534, 65535, 65536, 1 << 31, 1 << 32, math.MaxInt} {
			checkFits(t, v.p, l, most, true)
		}
		for _, most := range []int{n - 1, n / 2, 1, 0, -1, -n, -65535, -1<<32 + n, math.MinInt, math.MinInt + n} {
			checkFits(t, v.p, l, most, false)
		}
		for _, p := range slices.Concat(protocols, strangers) {
			for _, most := range sizes {
				checkFits(t, p, l, most, p == v.p && n <= most)
			}
		}
	}
}

// Many messages fit into as many bytes as they have together.
func TestP27_1FitsMany(t *testing.T) {
	for _, v := range []struct {
		p int
		l []api.Msg
		n int
	}{
		{api.Rip, many(2, rip2()), 44},
		{api.Rip, many(25, rip1()), 504},
		{api.Rip, many(24, secret()), 504},
		{api.Ng, []api.Msg{ng(), ng()}, 44},
		{api.Ng, []api.Msg{ngBy(), ngBy(), ngBy()}, 84},
		{api.Ng, []api.Msg{ngBy(), ng(), ngBy()}, 124},
		{api.Ng, many(3276, ng()), 65524},
		{api.Aodv, []api.Msg{sized(65535)}, 65535},
		{api.Babel, nil, 4},
		{api.Babel, []api.Msg{way(), way7()}, 43},
		{api.Babel, []api.Msg{way(), way()}, 42},
		{api.Babel, many(16382, ack()), 65532},
		{api.Babel, append(many(16382, ack()), opaque(3)), 65535},
	} {
		checkFits(t, v.p, v.l, v.n, true)
		checkFits(t, v.p, v.l, v.n+1, true)
		checkFits(t, v.p, v.l, math.MaxInt, true)
		checkFits(t, v.p, v.l, v.n-1, false)
		checkFits(t, v.p, v.l, 0, false)
	}
}

// No messages have a datagram of Babel alone.
func TestP27_1FitsNone(t *testing.T) {
	for _, l := range [][]api.Msg{nil, {}, make([]api.Msg, 0, 4)} {
		for _, p := range slices.Concat(protocols, strangers) {
			for _, most := range slices.Concat(sizes, []int{3, 4, 5}) {
				checkFits(t, p, l, most, p == api.Babel && most >= 4)
			}
		}
	}
}

// Messages without a datagram fit nowhere.
func TestP27_1FitsNowhere(t *testing.T) {
	for _, v := range []struct {
		p int
		l []api.Msg
	}{
		{api.Rip, many(26, rip2())},
		{api.Rip, many(25, secret())},
		{api.Rip, []api.Msg{rip2(), ripAsk()}},
		{api.Rip, []api.Msg{rip2(), secret()}},
		{api.Rip, []api.Msg{ripAll(), ripAll()}},
		{api.Rip, []api.Msg{rip2(), ng()}},
		{api.Ng, []api.Msg{ng(), ngAsk()}},
		{api.Ng, many(3277, ng())},
		{api.Ng, []api.Msg{rip2()}},
		{api.Aodv, many(2, rrepAck())},
		{api.Aodv, []api.Msg{sized(65536)}},
		{api.Aodv, []api.Msg{ack()}},
		{api.Babel, []api.Msg{wayBy(), way()}},
		{api.Babel, many(16383, ack())},
		{api.Babel, append(many(16382, ack()), opaque(4))},
		{api.Babel, []api.Msg{rrepAck()}},
	} {
		for _, most := range sizes {
			checkFits(t, v.p, v.l, most, false)
		}
	}
}

// One that may not be fits nowhere, and none with it.
func TestP27_1FitsWrong(t *testing.T) {
	for _, wrong := range wrongs() {
		for _, v := range alones() {
			for _, l := range [][]api.Msg{{wrong}, {wrong, v.m}, {v.m, wrong}, {v.m, v.m, wrong}} {
				for _, most := range []int{-1, 0, 65535, math.MaxInt} {
					checkFits(t, v.p, l, most, false)
				}
			}
		}
	}
}
