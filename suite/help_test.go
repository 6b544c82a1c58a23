package suite

import (
	"fmt"
	"math"
	"math/rand"
	"strings"
	"testing"

	"roadbook/aodv"
	"roadbook/api"
	"roadbook/intake"
	"roadbook/lean"
	"roadbook/msg"
	"roadbook/outlet"
	"roadbook/rip"
	"roadbook/ripng"
)

// protocols are those that there are, strangers numbers that are none, though
// some have the last bytes of one.
var (
	protocols = []int{1, 2, 3, 4}
	strangers = []int{
		0, 5, 6, 7, 9, 100, 255, 256, 1<<8 + 1, 1<<8 + 4, 1<<16 + 2, 1<<16 + 3, 1<<32 + 1, 1<<32 + 2, 1<<32 + 3, 1<<32 + 4, math.MaxInt - 1, math.MaxInt,
		-1, -2, -3, -4, -5, -255, -256 + 1, -256 + 2, -256 + 3, -256 + 4, math.MinInt, math.MinInt + 1, math.MinInt + 2, math.MinInt + 3, math.MinInt + 4,
	}
)

// layerRight, layerParse and layerEncode are what the layers below answer for
// the protocol p, when they are asked themselves.
func layerRight(p int, m api.Msg) bool {
	return p == 1 && rip.Right(m) || p == 2 && ripng.Right(m) || p == 3 && aodv.Right(m) || p == 4 && lean.Right(m)
}

func layerParse(p int, b string) ([]api.Msg, int, api.Errno) {
	switch p {
	case 1:
		return rip.Parse(b)
	case 2:
		return ripng.Parse(b)
	case 3:
		return aodv.Parse(b)
	case 4:
		return intake.Parse(b)
	}
	return nil, 0, api.ErrArg
}

func layerEncode(p int, l []api.Msg) (string, int, api.Errno) {
	switch p {
	case 1:
		return rip.Encode(l)
	case 2:
		return ripng.Encode(l)
	case 3:
		return aodv.Encode(l)
	case 4:
		return outlet.Encode(l)
	}
	return "", 0, api.ErrArg
}

// sketch is v in short.
func sketch(v any) string { return fmt.Sprintf("%.600s", fmt.Sprintf("%#v", v)) }

// checkRight holds Right to answer that, and the layer of the protocol as well.
func checkRight(t *testing.T, p int, m api.Msg, want bool) {
	t.Helper()
	if Right(p, m) != want || layerRight(p, m) != want {
		t.Errorf("Right(%d, %s) = %t, its layer's %t; want %t", p, sketch(m), Right(p, m), layerRight(p, m), want)
	}
}

// checkRead holds Parse to answer these messages.
func checkRead(t *testing.T, p int, b string, want []api.Msg) {
	t.Helper()
	l, at, err := Parse(p, b)
	if err != api.OK || at != 0 || !msg.SameAll(l, want) {
		t.Errorf("Parse(%d, %.200q) = %d messages, %s, at %d, error %d; want %d, %s", p, b, len(l), sketch(l), at, err, len(want), sketch(want))
	}
	checkParse(t, p, b)
}

// checkUnread holds Parse to answer that error, at that place.
func checkUnread(t *testing.T, p int, b string, where int, want api.Errno) {
	t.Helper()
	l, at, err := Parse(p, b)
	if err != want || at != where || len(l) != 0 {
		t.Errorf("Parse(%d, %.200q), of %d bytes, = %s, at %d, error %d; want at %d, error %d", p, b, len(b), sketch(l), at, err, where, want)
	}
	checkParse(t, p, b)
}

// checkWritten holds Encode to answer these bytes.
func checkWritten(t *testing.T, p int, l []api.Msg, want string) {
	t.Helper()
	b, at, err := Encode(p, l)
	if err != api.OK || at != 0 || b != want {
		t.Errorf("Encode(%d, %s) = %.200q, at %d, error %d; want %.200q", p, sketch(l), b, at, err, want)
	}
	checkEncode(t, p, l)
}

// checkUnwritten holds Encode to answer that error, at that place.
func checkUnwritten(t *testing.T, p int, l []api.Msg, where int, want api.Errno) {
	t.Helper()
	b, at, err := Encode(p, l)
	if err != want || at != where || b != "" {
		t.Errorf("Encode(%d, %d messages, %s) = %.200q, at %d, error %d; want at %d, error %d", p, len(l), sketch(l), b, at, err, where, want)
	}
	checkEncode(t, p, l)
}

// checkParse holds what Parse answers, whatever b is: its layer answers the
// same; beside an error there is its place alone, which is one of b; and what is
// read has a datagram, unless that is too long, which is read as the same, and
// written as it is. It tells whether there is such a datagram.
func checkParse(t *testing.T, p int, b string) bool {
	t.Helper()
	l, at, err := Parse(p, b)
	if then, where, fault := layerParse(p, b); err != fault || at != where || !msg.SameAll(l, then) {
		t.Errorf("Parse(%d, %.200q) = %s, at %d, error %d; its layer answers %s, at %d, error %d", p, b, sketch(l), at, err, sketch(then), where, fault)
	}
	if err != api.OK {
		if len(l) != 0 || at < 0 || at > len(b) {
			t.Errorf("Parse(%d, %.200q), of %d bytes, has the error %d, at %d, beside %s", p, b, len(b), err, at, sketch(l))
		}
		return false
	}
	if at != 0 {
		t.Errorf("Parse(%d, %.200q) has no error, but the place %d", p, b, at)
	}
	for _, m := range l {
		if !Right(p, m) {
			t.Errorf("Parse(%d, %.200q) tells %s, which may not be", p, b, sketch(m))
		}
	}
	return checkRewritten(t, p, b, l)
}

// checkRewritten holds l, which was read of b, to have a datagram, and tells
// whether this is short enough to be one.
func checkRewritten(t *testing.T, p int, b string, l []api.Msg) bool {
	t.Helper()
	first, at, err := Encode(p, l)
	if err == api.ErrLong && p == api.Babel && outlet.Plain(l) > api.MaxBytes {
		return false
	}
	if err != api.OK || at != 0 {
		t.Fatalf("%s, read of %.200q, isn't written: at %d, error %d", sketch(l), b, at, err)
	}
	if (p == api.Rip || p == api.Aodv) && first != b {
		t.Errorf("%.200q, of the protocol %d, is written as %.200q", b, p, first)
	}
	back, at, err := Parse(p, first)
	if err != api.OK || at != 0 || !msg.SameAll(back, l) {
		t.Fatalf("%.200q is written as %.200q, which is %s, at %d, error %d; want %s", b, first, sketch(back), at, err, sketch(l))
	}
	if again, _, err := Encode(p, back); err != api.OK || again != first {
		t.Errorf("%.200q, written as %.200q, is written as %.200q, error %d", b, first, again, err)
	}
	return true
}

// checkEncode holds what Encode answers, whatever l is: its layer answers the
// same; beside an error there is its place alone, which is one of l; and what is
// written is read as these messages, each of which may be. It tells whether
// there is a datagram.
func checkEncode(t *testing.T, p int, l []api.Msg) bool {
	t.Helper()
	b, at, err := Encode(p, l)
	if then, where, fault := layerEncode(p, l); b != then || at != where || err != fault {
		t.Errorf("Encode(%d, %s) = %.200q, at %d, error %d; its layer answers %.200q, at %d, error %d", p, sketch(l), b, at, err, then, where, fault)
	}
	if err != api.OK {
		if b != "" || at < 0 || at > len(l) {
			t.Errorf("Encode(%d, %d messages, %s) has the error %d, at %d, beside %.200q", p, len(l), sketch(l), err, at, b)
		}
		return false
	}
	if at != 0 {
		t.Errorf("Encode(%d, %s) has no error, but the place %d", p, sketch(l), at)
	}
	back, where, fault := Parse(p, b)
	if fault != api.OK || where != 0 || !msg.SameAll(back, l) {
		t.Errorf("Encode(%d, %s) = %.200q, which is read as %s, at %d, error %d", p, sketch(l), b, sketch(back), where, fault)
	}
	for _, m := range l {
		if !Right(p, m) {
			t.Errorf("Encode(%d, %s) = %.200q, though %s may not be", p, sketch(l), b, sketch(m))
		}
	}
	return true
}

// someBytes is n bytes.
func someBytes(r *rand.Rand, n int) string {
	b := make([]byte, n)
	r.Read(b)
	return string(b)
}

// someAddr is an address of so many bytes, all of whose bits from plen on are 0;
// addresses often begin alike.
func someAddr(r *rand.Rand, size, plen int) string {
	b := []byte(strings.Repeat("\x0a", size-2) + someBytes(r, 2))
	if r.Intn(2) == 0 {
		b = []byte(someBytes(r, size))
	}
	for i := plen; i < 8*size; i++ {
		b[i/8] &^= 0x80 >> (i % 8)
	}
	return string(b)
}

// someList is messages of the protocol p, each of which may be; most of them
// have a datagram together.
func someList(r *rand.Rand, p int) []api.Msg {
	var l []api.Msg
	switch p {
	case api.Rip:
		first := []api.Msg{rip1(), rip2(), secret()}[r.Intn(3)]
		for range 1 + r.Intn(26) {
			l = append(l, someRip(r, first))
		}
	case api.Ng:
		for range 1 + r.Intn(40) {
			plen := r.Intn(129)
			next := []string{naught, head + "abcdefgh", head + someBytes(r, 8)}[r.Intn(3)]
			l = append(l, api.Msg{Kind: api.NgRoute, Cmd: 2, Tag: r.Intn(65536), Prefix: someAddr(r, 16, plen), Plen: plen, Next: next, Metric: 1 + r.Intn(16)})
		}
	case api.Aodv:
		l = append(l, someAodv(r))
	case api.Babel:
		for range r.Intn(12) {
			l = append(l, someBabel(r))
		}
	}
	return l
}

// someRip is a route that stands together with first.
func someRip(r *rand.Rand, first api.Msg) api.Msg {
	first.Metric = 1 + r.Intn(16)
	if first.Ver == 1 {
		first.Prefix = someBytes(r, 4)
		return first
	}
	first.Tag, first.Next, first.Plen = r.Intn(65536), someBytes(r, 4), r.Intn(33)
	first.Prefix = someAddr(r, 4, first.Plen)
	return first
}

// someAodv is a message of AODV that may be.
func someAodv(r *rand.Rand) api.Msg {
	m := aodvs()[r.Intn(4)]
	if m.Kind == api.Rreq || m.Kind == api.Rrep {
		m.Flags, m.Hops, m.Seq = r.Intn(4), r.Intn(256), r.Intn(1<<32)
		m.Addr, m.Orig = someBytes(r, 4), someBytes(r, 4)
	}
	for range r.Intn(4) {
		m.Subs = append(m.Subs, api.Sub{Type: r.Intn(256), Data: someBytes(r, r.Intn(256))})
	}
	return m
}

// someBabel is a message of Babel that may be, an Update more often than others;
// one that has a way has a next hop, but for a few.
func someBabel(r *rand.Rand) api.Msg {
	if r.Intn(3) == 0 {
		l := tlvs()
		return l[r.Intn(len(l))].m
	}
	m := way()
	m.Ae = 1 + r.Intn(3)
	m.Interval, m.Seq, m.Metric = r.Intn(65536), r.Intn(65536), r.Intn(65535)
	switch m.Ae {
	case 1:
		m.Plen = r.Intn(33)
		m.Prefix, m.Next = someAddr(r, 4, m.Plen), []string{"abcd", "abce"}[r.Intn(2)]
	case 2:
		m.Plen = r.Intn(129)
		m.Prefix, m.Next = someAddr(r, 16, m.Plen), []string{head + "abcdefgh", "abcdefghijklmnop"}[r.Intn(2)]
	case 3:
		m.Plen = 64 + r.Intn(65)
		m.Prefix, m.Next = head+someAddr(r, 8, m.Plen-64), head+"abcdefgh"
	}
	switch r.Intn(8) {
	case 0:
		m.Next = ""
	case 1:
		m.Metric, m.Id, m.Next = api.Far, "", ""
	case 2:
		m.Id = otherId
	case 3:
		m.Subs = []api.Sub{{Type: 2 + r.Intn(126), Data: someBytes(r, r.Intn(199))}}
	}
	return m
}
