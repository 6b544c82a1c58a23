package rip

import (
	"math/rand"
	"slices"
	"strings"
	"testing"

	"roadbook/api"
)

func TestP10_1RightExamples(t *testing.T) {
	for _, m := range []api.Msg{route1, route2, secret, all1, all2, withAuth(all2, said)} {
		checkAlike(t, "example", m, true)
	}
	checkAlike(t, "nothing", api.Msg{}, false)
	checkAlike(t, "no fields", api.Msg{Kind: api.RipRoute}, false)
}

// Other kinds are none of RIP, even those that are bare.
func TestP10_1Kind(t *testing.T) {
	for _, m := range []api.Msg{route1, route2, secret, all1, all2} {
		numbers(t, "Kind", m, func(m *api.Msg, n int) { m.Kind = n }, only(1))
	}
	checkRight(t, "NgRoute", api.Msg{Kind: api.NgRoute, Cmd: 2, Prefix: nought, Next: nought, Metric: 1}, false)
	checkRight(t, "Ack", api.Msg{Kind: api.Ack, Nonce: 7}, false)
}

// Any field that a route of RIP doesn't have makes it one that may not be.
func TestP10_1Bare(t *testing.T) {
	changes := map[string]func(m *api.Msg){
		"Ae":       func(m *api.Msg) { m.Ae = 1 },
		"Id":       func(m *api.Msg) { m.Id = "\x00" },
		"Seq":      func(m *api.Msg) { m.Seq = 1 },
		"Seq2":     func(m *api.Msg) { m.Seq2 = -1 },
		"Interval": func(m *api.Msg) { m.Interval = 1 },
		"Flags":    func(m *api.Msg) { m.Flags = 1 },
		"Hops":     func(m *api.Msg) { m.Hops = 1 },
		"Nonce":    func(m *api.Msg) { m.Nonce = 1 },
		"Cost":     func(m *api.Msg) { m.Cost = 1 },
		"Addr":     func(m *api.Msg) { m.Addr = nought },
		"Orig":     func(m *api.Msg) { m.Orig = nought },
		"List":     func(m *api.Msg) { m.List = []api.Dest{{}} },
		"Type":     func(m *api.Msg) { m.Type = 1 },
		"Data":     func(m *api.Msg) { m.Data = "\x00" },
		"Subs":     func(m *api.Msg) { m.Subs = []api.Sub{{}} },
	}
	for _, m := range []api.Msg{route1, route2, secret, all1, all2} {
		for name, change := range changes {
			checkAlike(t, name, with(m, change), false)
		}
		checkAlike(t, "empty lists", with(m, func(m *api.Msg) { m.List, m.Subs = []api.Dest{}, []api.Sub{} }), true)
	}
}

func TestP10_1Cmd(t *testing.T) {
	set := func(m *api.Msg, n int) { m.Cmd = n }
	for _, m := range []api.Msg{route1, route2, secret} {
		numbers(t, "Cmd", m, set, only(1, 2))
	}
	for _, m := range []api.Msg{all1, all2} {
		numbers(t, "Cmd of the family 0", m, set, only(1))
	}
}

// A route that has just what the version 1 has room for may be of both; one
// that has more may be of the version 2 alone.
func TestP10_1Ver(t *testing.T) {
	set := func(m *api.Msg, n int) { m.Ver = n }
	for _, m := range []api.Msg{route1, all1, all2} {
		numbers(t, "Ver", m, set, only(1, 2))
	}
	for _, m := range []api.Msg{route2, secret, withAuth(route1, said), withAuth(all1, said)} {
		numbers(t, "Ver of more", m, set, only(2))
	}
}

// What is said has 18 bytes, and is of the version 2.
func TestP10_1Auth(t *testing.T) {
	for n := range 300 {
		for _, fill := range []string{"\x00", "\xff", "a"} {
			auth := strings.Repeat(fill, n)
			checkAlike(t, "Auth", withAuth(route2, auth), n == 0 || n == 18)
			checkAlike(t, "Auth, family 0", withAuth(all2, auth), n == 0 || n == 18)
			checkAlike(t, "Auth, version 1", withAuth(route1, auth), n == 0)
			checkAlike(t, "Auth, version 1, family 0", withAuth(all1, auth), n == 0)
		}
	}
	checkAlike(t, "Auth, the whole entry", withAuth(route2, says), false)
	checkAlike(t, "Auth, letters of two bytes", withAuth(route2, strings.Repeat("é", 9)), true)
	checkAlike(t, "Auth, 18 letters", withAuth(route2, strings.Repeat("é", 18)), false)
}

// A route is of the one family or of the other by all of its fields.
func TestP10_1Family(t *testing.T) {
	set := func(m *api.Msg, n int) { m.Family = n }
	for _, m := range []api.Msg{route1, route2, secret} {
		numbers(t, "Family", m, set, only(2))
		numbers(t, "Family of a request", with(m, func(m *api.Msg) { m.Cmd = 1 }), set, only(2))
	}
	numbers(t, "Family of all, version 1", all1, set, only(0))
	numbers(t, "Family of all, version 2", all2, set, only(0, 2))
}

func TestP10_1Tag(t *testing.T) {
	set := func(m *api.Msg, n int) { m.Tag = n }
	numbers(t, "Tag, version 1", route1, set, only(0))
	numbers(t, "Tag, version 2", route2, set, within(0, 65535))
	numbers(t, "Tag, with Auth", secret, set, within(0, 65535))
	numbers(t, "Tag, family 0, version 1", all1, set, only(0))
	numbers(t, "Tag, family 0, version 2", all2, set, only(0))
}

func TestP10_1Metric(t *testing.T) {
	set := func(m *api.Msg, n int) { m.Metric = n }
	for _, m := range []api.Msg{route1, route2, secret} {
		numbers(t, "Metric", m, set, within(1, 16))
		numbers(t, "Metric of a request", with(m, func(m *api.Msg) { m.Cmd = 1 }), set, within(1, 16))
	}
	for _, m := range []api.Msg{all1, all2} {
		numbers(t, "Metric, family 0", m, set, only(16))
	}
}

// A prefix's length goes as far as its last bit, and to all of an address.
func TestP10_1Plen(t *testing.T) {
	set := func(m *api.Msg, n int) { m.Plen = n }
	numbers(t, "Plen, version 1", route1, set, only(32))
	numbers(t, "Plen, family 0, version 1", all1, set, only(0))
	numbers(t, "Plen, family 0, version 2", all2, set, only(0))
	least := map[string]int{
		nought: 0, "\x80\x00\x00\x00": 1, "\xff\x00\x00\x00": 8, "\x0a\x01\x02\x00": 23, "\x0a\x01\x02\x80": 25,
		"\x00\x00\x00\x01": 32, "\xff\xff\xff\xff": 32,
	}
	for addr, low := range least {
		numbers(t, "Plen, version 2", with(route2, func(m *api.Msg) { m.Prefix = addr }), set, within(low, 32))
		m := with(route1, func(m *api.Msg) { m.Prefix = addr })
		numbers(t, "Plen, version 1", m, set, only(32))
	}
}

// An address is one of IPv4: four bytes, whatever they are.
func TestP10_1Prefix(t *testing.T) {
	for n := range 40 {
		for _, fill := range []string{"\x00", "\xff", "\x01"} {
			set := func(m *api.Msg) { m.Prefix = strings.Repeat(fill, n) }
			checkAlike(t, "Prefix, version 1", with(route1, set), n == 4)
			checkAlike(t, "Prefix, version 2", with(with(route2, set), func(m *api.Msg) { m.Plen = 32 }), n == 4)
			checkAlike(t, "Prefix of no bits", with(with(route2, set), func(m *api.Msg) { m.Plen = 0 }), n == 4 && fill == "\x00")
			checkAlike(t, "Prefix, family 0, version 1", with(all1, set), n == 4 && fill == "\x00")
			checkAlike(t, "Prefix, family 0, version 2", with(all2, set), n == 4 && fill == "\x00")
		}
	}
	long := "\x0a\x01\x02\x03" + strings.Repeat("\x00", 12)
	for _, plen := range []int{0, 32, 33, 128} {
		set := func(m *api.Msg) { m.Prefix, m.Plen = long, plen }
		checkAlike(t, "Prefix of IPv6, version 1", with(route1, set), false)
		checkAlike(t, "Prefix of IPv6, version 2", with(route2, set), false)
	}
}

// Each bit of a prefix, alone, may be for lengths that reach behind it.
func TestP10_1PrefixBits(t *testing.T) {
	for bit := range 32 {
		addr := num(1<<(31-bit), 4)
		for plen := range 33 {
			m := with(route2, func(m *api.Msg) { m.Prefix, m.Plen = addr, plen })
			checkAlike(t, "Prefix of a bit", m, bit < plen)
		}
	}
}

// A next hop has four bytes; of the version 1 and of the family 0 noughts.
func TestP10_1Next(t *testing.T) {
	list := []string{"\x00\x00\x00\x01", "\x01\x00\x00\x00", "\xff\xff\xff\xff", "abcd", "\x0a\x01\x02\x03", "é€", "\xff\xff\xfe\x00"}
	for n := range 40 {
		list = append(list, strings.Repeat("\x00", n), strings.Repeat("\xff", n))
	}
	for _, next := range list {
		set := func(m *api.Msg) { m.Next = next }
		checkAlike(t, "Next, version 2", with(route2, set), len(next) == 4)
		checkAlike(t, "Next, with Auth", with(secret, set), len(next) == 4)
		for _, m := range []api.Msg{route1, all1, all2} {
			checkAlike(t, "Next, noughts", with(m, set), next == nought)
		}
	}
}

// Routes made by what may be may be, whatever they hold.
func TestP10_1RightOfMany(t *testing.T) {
	r := rand.New(rand.NewSource(1))
	for range 4000 {
		for _, m := range someRoutes(r) {
			checkAlike(t, "made", m, true)
		}
	}
}

// Neither what is handed in nor what is kept hangs on a call.
func TestP10_1RightAgain(t *testing.T) {
	list := []api.Msg{secret, {}, route1, with(route1, func(m *api.Msg) { m.Tag = 1 }), all1}
	want := []bool{true, false, true, false, true}
	for range 3 {
		for i, m := range list {
			checkRight(t, "again", m, want[i])
		}
		slices.Reverse(list)
		slices.Reverse(want)
	}
}
