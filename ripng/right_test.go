package ripng

import (
	"math/rand"
	"slices"
	"strings"
	"testing"

	"roadbook/api"
)

func TestP12_1RightExamples(t *testing.T) {
	for _, m := range []api.Msg{route1, route2, wish, by1, by2, by(route2, near3), by(wish, near1)} {
		checkAlike(t, "example", m, true)
	}
	checkAlike(t, "nothing", api.Msg{}, false)
	checkAlike(t, "no fields", api.Msg{Kind: api.NgRoute}, false)
	checkAlike(t, "no next hop", by(route1, ""), false)
}

// Other kinds are none of RIPng, even those that are bare.
func TestP12_1Kind(t *testing.T) {
	for _, m := range []api.Msg{route1, route2, wish, by1} {
		numbers(t, "Kind", m, func(m *api.Msg, n int) { m.Kind = n }, only(2))
	}
	rip := api.Msg{Kind: api.RipRoute, Cmd: 2, Ver: 2, Family: 2, Prefix: "\x0a\x01\x02\x00", Plen: 23, Next: "\x00\x00\x00\x00", Metric: 1}
	checkAlike(t, "RipRoute", rip, false)
	checkAlike(t, "RipRoute, with that Kind", with(rip, func(m *api.Msg) { m.Kind = api.NgRoute }), false)
	checkAlike(t, "Ack", api.Msg{Kind: api.Ack, Nonce: 7}, false)
}

// Any field that a route of RIPng doesn't have makes it one that may not be.
func TestP12_1Bare(t *testing.T) {
	changes := map[string]func(m *api.Msg){
		"Ver":      func(m *api.Msg) { m.Ver = 1 },
		"Auth":     func(m *api.Msg) { m.Auth = "\x00\x02abcdefghijklmnop" },
		"Family":   func(m *api.Msg) { m.Family = 35 },
		"Ae":       func(m *api.Msg) { m.Ae = 1 },
		"Id":       func(m *api.Msg) { m.Id = "\x00" },
		"Seq":      func(m *api.Msg) { m.Seq = 1 },
		"Seq2":     func(m *api.Msg) { m.Seq2 = -1 },
		"Interval": func(m *api.Msg) { m.Interval = 1 },
		"Flags":    func(m *api.Msg) { m.Flags = 1 },
		"Hops":     func(m *api.Msg) { m.Hops = 1 },
		"Nonce":    func(m *api.Msg) { m.Nonce = 1 },
		"Cost":     func(m *api.Msg) { m.Cost = 1 },
		"Addr":     func(m *api.Msg) { m.Addr = nought },
		"Orig":     func(m *api.Msg) { m.Orig = nought },
		"List":     func(m *api.Msg) { m.List = []api.Dest{{}} },
		"Type":     func(m *api.Msg) { m.Type = 1 },
		"Data":     func(m *api.Msg) { m.Data = "\x00" },
		"Subs":     func(m *api.Msg) { m.Subs = []api.Sub{{}} },
	}
	for _, m := range []api.Msg{route1, route2, wish, by1} {
		for name, change := range changes {
			checkAlike(t, name, with(m, change), false)
		}
		checkAlike(t, "empty lists", with(m, func(m *api.Msg) { m.List, m.Subs = []api.Dest{}, []api.Sub{} }), true)
	}
}

func TestP12_1Numbers(t *testing.T) {
	for _, m := range []api.Msg{route1, route2, wish, by1} {
		numbers(t, "Cmd", m, func(m *api.Msg, n int) { m.Cmd = n }, only(1, 2))
		numbers(t, "Tag", m, func(m *api.Msg, n int) { m.Tag = n }, within(0, 65535))
		numbers(t, "Metric", m, func(m *api.Msg, n int) { m.Metric = n }, within(1, 16))
	}
}

// A prefix's length goes from its last bit that is 1 to all of the address.
func TestP12_1Plen(t *testing.T) {
	set := func(m *api.Msg, n int) { m.Plen = n }
	least := map[string]int{
		nought: 0, net: 35, full: 128, near1: 125, near3: 9, oneBit(0): 1, oneBit(7): 8, oneBit(8): 9, oneBit(63): 64, oneBit(127): 128,
	}
	for addr, low := range least {
		numbers(t, "Plen", with(route1, func(m *api.Msg) { m.Prefix = addr }), set, within(low, 128))
		numbers(t, "Plen, by a next hop", with(by1, func(m *api.Msg) { m.Prefix = addr }), set, within(low, 128))
	}
}

// A prefix is one of IPv6: 16 bytes, whatever they are.
func TestP12_1Prefix(t *testing.T) {
	for n := range 40 {
		for _, fill := range []string{"\x00", "\xff", "\x01"} {
			for _, plen := range []int{0, 32, 128} {
				m := with(route1, func(m *api.Msg) { m.Prefix, m.Plen = strings.Repeat(fill, n), plen })
				checkAlike(t, "Prefix", m, n == 16 && (fill == "\x00" || plen == 128))
			}
		}
	}
	for plen := range 40 {
		m := with(route2, func(m *api.Msg) { m.Prefix, m.Plen = "\x0a\x00\x00\x00", plen })
		checkAlike(t, "Prefix of IPv4", m, false)
	}
}

// Each bit of a prefix, alone, may be for lengths that reach behind it.
func TestP12_1PrefixBits(t *testing.T) {
	for bit := range 128 {
		for plen := range 129 {
			m := with(route1, func(m *api.Msg) { m.Prefix, m.Plen = oneBit(bit), plen })
			checkAlike(t, "Prefix of a bit", m, bit < plen)
		}
	}
}

// A next hop is 16 noughts, or link-local.
func TestP12_1Next(t *testing.T) {
	list := []string{
		near1, near2, near3, far, net, full, "é€", "\x0a\x01\x02\x03",
		near1[:15], near1 + "\x00", "\x00" + near1, near1[:8], near1[8:], near1 + near1,
		"\x00\x00\x00\x00\x00\x00\x00\x00\x00\x00\xff\xff\x0a\x01\x02\x03",
	}
	for n := range 40 {
		list = append(list, strings.Repeat("\x00", n), strings.Repeat("\xff", n), ("\xfe\x80" + nought + nought + nought)[:n])
	}
	for bit := range 128 {
		list = append(list, oneBit(bit))
	}
	for _, next := range list {
		want := next == nought || len(next) == 16 && isNear(next)
		for _, m := range []api.Msg{route1, route2, wish} {
			checkAlike(t, "Next", by(m, next), want)
		}
	}
	for at := range 16 {
		for v := range 256 {
			next := over(near1, at, num(v, 1))
			checkAlike(t, "Next, another byte", by(route1, next), at >= 8 || next == near1)
		}
	}
}

// The sizes of a next hop that the chapter turns on, each by itself.
func TestP12_1NextSizes(t *testing.T) {
	for _, n := range []int{0, 8, 15, 17} {
		checkAlike(t, "noughts", by(route1, strings.Repeat("\x00", n)), false)
		checkAlike(t, "link-local ahead", by(route1, (near1 + "\x00")[:n]), false)
	}
	checkAlike(t, "16 noughts", by(route1, strings.Repeat("\x00", 16)), true)
	checkAlike(t, "16 bytes, link-local", by(route1, near1), true)
	checkAlike(t, "other 16 bytes", by(route1, "abcdefghijklmnop"), false)
}

// Routes made by what may be may be, whatever they hold.
func TestP12_1RightOfMany(t *testing.T) {
	r := rand.New(rand.NewSource(1))
	for range 4000 {
		for _, m := range someRoutes(r, 8) {
			checkAlike(t, "made", m, true)
		}
	}
}

// Neither what is handed in nor what is kept hangs on a call.
func TestP12_1RightAgain(t *testing.T) {
	list := []api.Msg{by1, {}, route1, by(route1, far), wish}
	want := []bool{true, false, true, false, true}
	for range 3 {
		for i, m := range list {
			checkRight(t, "again", m, want[i])
		}
		slices.Reverse(list)
		slices.Reverse(want)
	}
}
