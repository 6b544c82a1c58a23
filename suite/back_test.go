package suite

import (
	"math/rand"
	"slices"
	"strings"
	"testing"

	"roadbook/api"
	"roadbook/msg"
)

// Messages at random, that may be: those that have a datagram come back of it,
// each protocol's own alone.
func TestP26_2ListsComeBack(t *testing.T) {
	r := rand.New(rand.NewSource(1))
	for _, p := range protocols {
		wrote := 0
		for range 1500 {
			l := someList(r, p)
			if checkEncode(t, p, l) {
				wrote++
			}
			for _, m := range l {
				checkRight(t, p, m, true)
			}
			for _, other := range protocols {
				if other != p && len(l) > 0 {
					checkUnwritten(t, other, l, 0, api.ErrArg)
				}
			}
		}
		if wrote < 1000 {
			t.Errorf("only %d lists of the protocol %d were written", wrote, p)
		}
	}
}

// Lists of messages of all protocols, with such as may not be among them.
func TestP26_2AnyLists(t *testing.T) {
	r := rand.New(rand.NewSource(2))
	all := slices.Concat(goods(), bads())
	for range 20000 {
		var l []api.Msg
		for range r.Intn(4) {
			l = append(l, all[r.Intn(len(all))].m)
		}
		for _, p := range protocols {
			checkEncode(t, p, l)
		}
	}
}

// Datagrams of each protocol, cut off anywhere, are read as those of every one;
// as one of its own only with less than was said.
func TestP26_2CutOff(t *testing.T) {
	for _, s := range samples() {
		for n := range len(s.bytes) {
			if n > 600 && n < len(s.bytes)-3 {
				continue
			}
			for _, p := range protocols {
				if checkParse(t, p, s.bytes[:n]) && p == s.p {
					checkLess(t, s, n)
				}
			}
		}
	}
	for _, p := range protocols {
		checkUnread(t, p, "", 0, api.ErrShort)
	}
}

// checkLess holds a datagram that is cut off there, and read nevertheless, to
// end ahead of an entry, or of an extension; one of Babel, which says how long
// it is, isn't read at all.
func checkLess(t *testing.T, s sample, n int) {
	t.Helper()
	l, _, _ := Parse(s.p, s.bytes[:n])
	less := len(l) < len(s.l)
	if s.p == api.Aodv {
		less = len(l) == 1 && len(l[0].Subs) < len(s.l[0].Subs)
	}
	if !less || s.p == api.Babel {
		t.Errorf("the first %d of the %d bytes %.200q are read as %s", n, len(s.bytes), s.bytes, sketch(l))
	}
}

// Bytes that are almost a datagram, read as those of every protocol.
func TestP26_2AlmostDatagrams(t *testing.T) {
	for _, s := range samples() {
		for at := range min(len(s.bytes), 48) {
			for _, v := range []byte{0, 1, 2, 3, 4, 16, 17, 42, 64, 128, 254, 255} {
				b := s.bytes[:at] + string([]byte{v}) + s.bytes[at+1:min(len(s.bytes), 600)]
				for _, p := range protocols {
					checkParse(t, p, b)
				}
			}
		}
	}
}

// Datagrams of messages at random, with some bytes changed, left out, or put in.
func TestP26_2SomeBytes(t *testing.T) {
	r := rand.New(rand.NewSource(3))
	for _, p := range protocols {
		read, unread := 0, 0
		for range 4000 {
			b, _, _ := Encode(p, someList(r, p))
			for range r.Intn(4) {
				b = changed(r, b)
			}
			if checkParse(t, p, b) {
				read++
			} else {
				unread++
			}
			checkParse(t, 1+r.Intn(4), b)
		}
		if read < 500 || unread < 500 {
			t.Errorf("of the protocol %d, %d datagrams were read, and %d not", p, read, unread)
		}
	}
}

// changed is b with a few bytes of it others, left out, or put in.
func changed(r *rand.Rand, b string) string {
	from := r.Intn(len(b) + 1)
	end := min(len(b), from+r.Intn(3))
	switch r.Intn(4) {
	case 0:
		return b[:from] + someBytes(r, end-from) + b[end:]
	case 1:
		return b[:from] + b[end:]
	case 2:
		return b[:from] + someBytes(r, r.Intn(4)) + b[from:]
	}
	return b[:from] + string([]byte{byte(r.Intn(5))}) + b[end:]
}

// Bytes behind the head of each protocol's datagrams.
func TestP26_2AnyBytes(t *testing.T) {
	r := rand.New(rand.NewSource(4))
	heads := []string{"", "\x02\x02\x00\x00", "\x01\x01\x00\x00", "\x02\x01\x00\x00", "\x01\x00\x00", "\x02\x00\x00", "\x03\x00\x00\x01", "\x04\x00", "\x2a\x02\x00"}
	for range 20000 {
		b := heads[r.Intn(len(heads))] + someBytes(r, r.Intn(48))
		for _, p := range protocols {
			checkParse(t, p, b)
		}
	}
	for n := range 300 {
		for _, p := range protocols {
			checkParse(t, p, strings.Repeat("\x00", n))
			checkParse(t, p, strings.Repeat("\xff", n))
		}
	}
}

// A datagram of Babel may be too long to be written: one whose router-ids lie in
// addresses, since these have to be said, and one whose Updates leave out bytes
// of a prefix that isn't the last one's, since there are more of it to be said.
func TestP26_2TooLong(t *testing.T) {
	ids := ""
	for n := 0; len(ids)+16 <= 65531; n++ {
		ids += "\x08\x0e\x01\x40\x20\x00" + numbers + string([]byte{10, byte(n >> 16), byte(n >> 8), byte(n)})
	}
	const six, left, short = "\x08\x1a\x02\x80\x80\x00" + numbers + net, "\x08\x0b\x02\x00\x80\x0f" + numbers + "\x07", "\x08\x0b\x02\x00\x08\x00" + numbers + "\x30"
	prefixes := "\x06\x0a\x00\x00" + id + six + strings.Repeat(left+short, 2518)
	for _, v := range []struct {
		body string
		n    int
	}{{ids, 4095}, {prefixes, 5037}} {
		l, _, err := Parse(api.Babel, wrapped(v.body))
		if err != api.OK || len(l) != v.n {
			t.Fatalf("%d messages, error %d; want %d", len(l), err, v.n)
		}
		if checkParse(t, api.Babel, wrapped(v.body)) {
			t.Error("it is written all the same")
		}
		b, at, err := Encode(api.Babel, l)
		if b != "" || at < 2000 || err != api.ErrLong {
			t.Errorf("%d bytes, at %d, error %d", len(b), at, err)
		}
		checkUnwritten(t, api.Babel, l[:at+1], at, api.ErrLong)
		if !checkEncode(t, api.Babel, l[:at]) {
			t.Errorf("the %d messages ahead of it aren't written", at)
		}
	}
}

// One of another protocol never is: of RIPng one with as many next hops as there
// may be, and one of AODV that is as long as there may be.
func TestP26_2NotTooLong(t *testing.T) {
	long := "\x02\x01\x00\x00" + strings.Repeat(ngHop+ngEntry+ngHopNone+ngEntry, 819)
	aodv := aodvSamples()[8].bytes
	if len(long) != 65524 || !checkParse(t, api.Ng, long) || len(aodv) != 65535 || !checkParse(t, api.Aodv, aodv) {
		t.Errorf("one of %d bytes, or of %d, isn't written", len(long), len(aodv))
	}
}

// What is handed in stays as it was, its spare room too.
func TestP26_2ChangesNothing(t *testing.T) {
	lists := [][]api.Msg{{rip2(), ng()}, {ng(), {}}, aodvs(), {way(), way7(), {}}}
	for _, s := range samples() {
		lists = append(lists, s.l[:min(len(s.l), 40)])
	}
	for _, l := range lists {
		for _, p := range []int{0, 1, 2, 3, 4, 5} {
			checkKept(t, p, l)
		}
	}
}

// checkKept holds the calls to leave l as it is, and the spare room that it and
// its messages' lists have.
func checkKept(t *testing.T, p int, l []api.Msg) {
	t.Helper()
	room := append(slices.Clone(l), api.Msg{Kind: 99}, api.Msg{Data: "spare"})
	before := slices.Clone(room)
	for i, m := range room {
		subs := append(slices.Clone(m.Subs), api.Sub{Type: 9, Data: "spare"})
		dests := append(slices.Clone(m.List), api.Dest{Addr: "spare", Seq: 9})
		before[i].Subs, before[i].List = slices.Clone(subs), slices.Clone(dests)
		room[i].Subs, room[i].List = subs[:len(m.Subs)], dests[:len(m.List)]
	}
	for _, m := range room[:len(l)] {
		Right(p, m)
	}
	Encode(p, room[:len(l)])
	for i, m := range room {
		m.Subs, m.List = m.Subs[:len(m.Subs)+1], m.List[:len(m.List)+1]
		if !msg.Same(m, before[i]) {
			t.Errorf("of the protocol %d, %s became %s", p, sketch(before[i]), sketch(m))
		}
	}
}

// A call hangs on its arguments alone; what was answered stays as it was,
// whatever is asked then, and whatever becomes of what was handed in.
func TestP26_2Again(t *testing.T) {
	all := samples()
	var told [][]api.Msg
	for _, s := range all {
		l, _, _ := Parse(s.p, s.bytes)
		told = append(told, l)
		for _, p := range []int{-1, 0, 1, 2, 3, 4, 5} {
			Parse(p, s.bytes)
			Encode(p, s.l)
		}
	}
	for i, s := range all {
		if !msg.SameAll(told[i], s.l) {
			t.Errorf("what was read of %.200q became %s", s.bytes, sketch(told[i]))
		}
		l := slices.Clone(s.l)
		b, at, err := Encode(s.p, l)
		clear(l)
		if b != s.bytes || at != 0 || err != api.OK {
			t.Errorf("what was written of %s became %.200q", sketch(s.l), b)
		}
		// What is changed in an answer isn't in the next one.
		clear(told[i])
		checkRead(t, s.p, s.bytes, s.l)
	}
}
