package pack

import (
	"math"
	"math/rand"
	"slices"
	"strings"
	"testing"

	"roadbook/api"
	"roadbook/msg"
	"roadbook/suite"
)

// someBytes is n bytes.
func someBytes(r *rand.Rand, n int) string {
	b := make([]byte, n)
	r.Read(b)
	return string(b)
}

// someAddr is an address of so many bytes, all of whose bits from plen on are 0;
// addresses often begin alike.
func someAddr(r *rand.Rand, size, plen int) string {
	b := []byte(strings.Repeat("\x0a", size-2) + someBytes(r, 2))
	if r.Intn(2) == 0 {
		b = []byte(someBytes(r, size))
	}
	for i := plen; i < 8*size; i++ {
		b[i/8] &^= 0x80 >> (i % 8)
	}
	return string(b)
}

// someList is up to n messages of the protocol p, each of which may be; some of
// them have no datagram with those ahead.
func someList(r *rand.Rand, p, n int) []api.Msg {
	var l []api.Msg
	for range r.Intn(n + 1) {
		switch p {
		case api.Rip:
			l = append(l, someRip(r, l))
		case api.Ng:
			l = append(l, someNg(r))
		case api.Aodv:
			l = append(l, someAodv(r))
		case api.Babel:
			l = append(l, someBabel(r))
		}
	}
	return l
}

// someRip is a route that mostly stands together with the last one of l.
func someRip(r *rand.Rand, l []api.Msg) api.Msg {
	m := []api.Msg{rip1(), rip2(), secret(), ripAsk(), ripAll()}[r.Intn(5)]
	if len(l) > 0 && r.Intn(16) > 0 {
		m = l[len(l)-1]
	}
	if m.Family == 2 {
		m.Metric = 1 + r.Intn(16)
	}
	if m.Ver == 2 {
		m.Tag, m.Next, m.Plen = r.Intn(65536), someBytes(r, 4), r.Intn(33)
		m.Prefix = someAddr(r, 4, m.Plen)
	}
	return m
}

func someNg(r *rand.Rand) api.Msg {
	m := []api.Msg{ng(), ngBy(), ngBy()}[r.Intn(3)]
	if r.Intn(16) == 0 {
		m.Cmd = 1
	}
	if r.Intn(16) == 0 {
		m.Next = head + someBytes(r, 8)
	}
	m.Tag, m.Plen, m.Metric = r.Intn(65536), r.Intn(129), 1+r.Intn(16)
	m.Prefix = someAddr(r, 16, m.Plen)
	return m
}

func someAodv(r *rand.Rand) api.Msg {
	m := []api.Msg{rreq(), rrep(), rerr(), rrepAck()}[r.Intn(4)]
	for range r.Intn(4) {
		m.Subs = append(m.Subs, api.Sub{Type: r.Intn(256), Data: someBytes(r, r.Intn(40))})
	}
	return m
}

// someBabel is a message of Babel, an Update more often than others; one that has
// a way has a next hop, but for a few.
func someBabel(r *rand.Rand) api.Msg {
	if r.Intn(3) == 0 {
		l := alones()
		if m := l[r.Intn(len(l))].m; suite.Right(api.Babel, m) {
			return m
		}
	}
	m := way()
	m.Ae = 1 + r.Intn(3)
	m.Interval, m.Seq, m.Metric = r.Intn(65536), r.Intn(65536), r.Intn(65535)
	switch m.Ae {
	case 1:
		m.Plen = r.Intn(33)
		m.Prefix, m.Next = someAddr(r, 4, m.Plen), []string{"abcd", "abce"}[r.Intn(2)]
	case 2:
		m.Plen = r.Intn(129)
		m.Prefix, m.Next = someAddr(r, 16, m.Plen), []string{head + "abcdefgh", "abcdefghijklmnop"}[r.Intn(2)]
	case 3:
		m.Plen = 64 + r.Intn(65)
		m.Prefix, m.Next = head+someAddr(r, 8, m.Plen-64), head+"abcdefgh"
	}
	switch r.Intn(8) {
	case 0:
		m.Next = ""
	case 1:
		m.Metric, m.Id, m.Next = api.Far, "", ""
	case 2:
		m.Id = otherId
	case 3:
		m.Subs = []api.Sub{{Type: 2 + r.Intn(126), Data: someBytes(r, r.Intn(60))}}
	}
	return m
}

// Messages at random, in datagrams of some size: as the words say, one by one,
// and as they come back.
func TestP27_2Lists(t *testing.T) {
	r := rand.New(rand.NewSource(1))
	for _, p := range protocols {
		errs := map[api.Errno]int{}
		datagrams, messages := 0, 0
		for range 1500 {
			l := someList(r, p, 60)
			most := []int{20, 60, 100, 300, 1000}[r.Intn(5)] + r.Intn(100)
			if r.Intn(20) == 0 && len(l) > 0 {
				l[r.Intn(len(l))] = wrongs()[r.Intn(len(wrongs()))]
			}
			errs[checkModel(t, p, l, most)]++
			d, _, err := Pack(p, l, most)
			if err == api.OK {
				datagrams += len(d)
				messages += len(l)
			}
		}
		if errs[api.OK] < 500 || errs[api.ErrArg] < 30 || errs[api.ErrSmall] < 15 || p != api.Aodv && messages < 2*datagrams {
			t.Errorf("of the protocol %d, the errors are %v, and %d messages were in %d datagrams", p, errs, messages, datagrams)
		}
	}
}

// A list at each size, from below none up to one more than suffices for all: there
// are datagrams from the size on that suffices for each message alone.
func TestP27_2EachSize(t *testing.T) {
	r := rand.New(rand.NewSource(2))
	for _, p := range protocols {
		for range 6 {
			l := someList(r, p, 24)
			longest, all := 0, 0
			for _, m := range l {
				b, _, _ := suite.Encode(p, []api.Msg{m})
				longest = max(longest, len(b))
				all += len(b)
			}
			for most := -1; most <= all+1; most++ {
				err := checkModel(t, p, l, most)
				if len(l) > 0 && (err == api.OK) != (most >= longest) {
					t.Errorf("Pack(%d, %s, %d) has the error %d; the longest has %d", p, sketch(l), most, err, longest)
				}
			}
		}
	}
}

// Messages that have a datagram together have this one, at its size; at one less
// they have others, or one of them is alone as long.
func TestP27_2JustAll(t *testing.T) {
	r := rand.New(rand.NewSource(3))
	for _, p := range protocols {
		whole := 0
		for range 1000 {
			l := someList(r, p, 8)
			b, _, err := suite.Encode(p, l)
			if err != api.OK || len(l) == 0 {
				continue
			}
			if _, _, err := Pack(p, l, len(b)); err == api.ErrSmall {
				continue // one that alone has more bytes than it has behind others
			}
			whole++
			checkPack(t, p, l, len(b), b)
			checkFits(t, p, l, len(b), true)
			checkPack(t, p, l, math.MaxInt, b)
			checkFits(t, p, l, len(b)-1, false)
			d, _, err := Pack(p, l, len(b)-1)
			if err == api.OK && len(d) < 2 || err != api.OK && err != api.ErrSmall {
				t.Errorf("Pack(%d, %s, %d) = %.200q, error %d", p, sketch(l), len(b)-1, d, err)
			}
			checkAll(t, p, l, len(b)-1)
		}
		if whole < 100 {
			t.Errorf("only %d lists of the protocol %d were written", whole, p)
		}
	}
}

// Long lists: what is read of all datagrams, one behind the other, is what was
// handed in, and none could have had one message more.
func TestP27_2LongLists(t *testing.T) {
	r := rand.New(rand.NewSource(4))
	for _, p := range protocols {
		var l []api.Msg
		for len(l) < 12000 {
			l = append(l, someList(r, p, 500)...)
		}
		for _, most := range []int{500, 1472, 65535, math.MaxInt} {
			checkAll(t, p, l, most)
			d, at, err := Pack(p, l, most)
			var back []api.Msg
			for _, b := range d {
				part, _, _ := suite.Parse(p, b)
				back = append(back, part...)
			}
			if err != api.OK || at != 0 || !msg.SameAll(back, l) {
				t.Errorf("%d messages of the protocol %d, in %d bytes each, are %d in %d datagrams, at %d, error %d", len(l), p, most, len(back), len(d), at, err)
			}
		}
	}
}

// What is packed ahead of a message hangs on nothing behind it: the datagrams of
// the beginning of a list are those of the list, but for the last one.
func TestP27_2Beginnings(t *testing.T) {
	r := rand.New(rand.NewSource(5))
	for _, p := range protocols {
		for range 20 {
			l := someList(r, p, 40)
			d, _, err := Pack(p, l, 300)
			if err != api.OK {
				continue
			}
			for n := 1; n <= len(l); n++ {
				first, _, _ := Pack(p, l[:n], 300)
				if whole := len(first) - 1; !slices.Equal(first[:whole], d[:whole]) {
					t.Fatalf("%d of %s are packed otherwise", n, sketch(l))
				}
			}
		}
	}
}

// What is handed in stays as it was, its spare room too.
func TestP27_2ChangesNothing(t *testing.T) {
	lists := [][]api.Msg{nil, many(60, rip2()), {rip2(), ng()}, {ng(), {}}, {ng(), ngBy(), ng()}, {rreq(), rrep(), rerr(), rrepAck(), sized(9)}, {way(), way7(), wayBy(), way(), ack()}}
	for _, l := range lists {
		for _, p := range []int{-1, 0, 1, 2, 3, 4, 5} {
			for _, most := range []int{-1, 4, 24, 30, 44, 60, 100, math.MaxInt} {
				checkKept(t, p, l, most)
			}
		}
	}
}

// checkKept holds the calls to leave l as it is, and the spare room that it and
// its messages' lists have.
func checkKept(t *testing.T, p int, l []api.Msg, most int) {
	t.Helper()
	room := append(slices.Clone(l), api.Msg{Kind: 99}, api.Msg{Data: "spare"})
	before := slices.Clone(room)
	for i, m := range room {
		subs := append(slices.Clone(m.Subs), api.Sub{Type: 9, Data: "spare"})
		dests := append(slices.Clone(m.List), api.Dest{Addr: "spare", Seq: 9})
		before[i].Subs, before[i].List = slices.Clone(subs), slices.Clone(dests)
		room[i].Subs, room[i].List = subs[:len(m.Subs)], dests[:len(m.List)]
	}
	Fits(p, room[:len(l)], most)
	Pack(p, room[:len(l)], most)
	for i, m := range room {
		m.Subs, m.List = m.Subs[:len(m.Subs)+1], m.List[:len(m.List)+1]
		if !msg.Same(m, before[i]) {
			t.Errorf("of the protocol %d, %s became %s", p, sketch(before[i]), sketch(m))
		}
	}
}

// A call hangs on its arguments alone; what was answered stays as it was,
// whatever is asked then, and whatever becomes of what was handed in, or of
// another answer.
func TestP27_2Again(t *testing.T) {
	lists := [][]api.Msg{nil, many(60, rip2()), {ngBy(), ngBy(), ng()}, {rreq(), rrep(), rrepAck()}, {way(), way7(), wayBy(), way()}}
	for p, l := range lists {
		given := slices.Clone(l)
		first, at, err := Pack(p, given, 60)
		kept := answer{slices.Clone(first), at, err}
		clear(given)
		for other, l := range lists {
			for _, most := range []int{0, 44, 60, 65535} {
				Fits(other, l, most)
				Pack(other, l, most)
				Pack(p, l, most)
			}
		}
		if !kept.same(answer{first, at, err}) {
			t.Errorf("%s became %.300q", kept, first)
		}
		clear(first)
		checkAnswer(t, p, l, 60, kept)
	}
}

// All calls end, whatever they are asked for.
func TestP27_2Ends(t *testing.T) {
	r := rand.New(rand.NewSource(6))
	texts := []string{"", "a", "abcd", id, naught, said, head + "abcdefgh", strings.Repeat("\xff", 17), strings.Repeat("a", 70000)}
	numbers := []int{math.MinInt, -1, 0, 1, 2, 3, 4, 16, 128, 255, 256, 65535, 65536, 1 << 32, math.MaxInt}
	text := func() string { return texts[r.Intn(len(texts))] }
	number := func() int { return numbers[r.Intn(len(numbers))] }
	for range 20000 {
		m := api.Msg{Kind: r.Intn(17) - 1, Cmd: number(), Ver: number(), Auth: text(), Family: number(), Ae: number(), Prefix: text(), Plen: number(),
			Tag: number(), Next: text(), Metric: number(), Id: text(), Seq: number(), Seq2: number(), Interval: number(), Flags: number(), Hops: number(),
			Nonce: number(), Cost: number(), Addr: text(), Orig: text(), Type: number(), Data: text()}
		if r.Intn(2) == 0 {
			m.Subs = []api.Sub{{Type: number(), Data: text()}}
			m.List = []api.Dest{{Addr: text(), Seq: number()}}
		}
		if r.Intn(2) == 0 {
			m = api.Msg{Kind: m.Kind, Type: m.Type, Nonce: m.Nonce, Subs: m.Subs}
		}
		p := r.Intn(7) - 1
		l := []api.Msg{m, m}
		most := number()
		checkModel(t, p, l, most)
		_, ok := encoded(p, l, most)
		checkFits(t, p, l, most, ok)
	}
}
