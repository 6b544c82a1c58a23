package rrep

import (
	"math/rand"
	"slices"
	"strings"
	"testing"

	"roadbook/api"
)

// Too few bytes are told ahead of all else, at their end: bits that must be 0
// are not looked at yet.
func TestP15_1GetShort(t *testing.T) {
	for _, b := range []string{
		spelled(plain()), spelled(least()), spelled(greatest()),
		filled(2, 0xff, 20), "\x02\x01" + strings.Repeat("\x00", 18), "\x02\x20\x00" + strings.Repeat("a", 17),
		"\x02\x00\x20" + strings.Repeat("a", 17), "\x02\x00\x80" + strings.Repeat("\x00", 17), filled(2, 4, 20),
	} {
		for n := 1; n < replyEnd; n++ {
			checkError(t, b[:n], n, api.ErrShort)
		}
	}
	checkError(t, "\x04", 1, api.ErrShort)
}

// Bytes of all sizes about those of a head, and with extensions of 0 and 255
// bytes behind them.
func TestP15_1GetSizes(t *testing.T) {
	behind := []string{"", "\x01\x00", "\x00\x00", "\xff\xff" + strings.Repeat("a", 255), spelledSubs([]api.Sub{sized(255, 255), {Type: 255}, sized(1, 255)})}
	for _, first := range []byte{2, 4} {
		for _, fill := range []byte{0, 1, 2, 4, 31, 32, 63, 64, 128, 192, 255} {
			for n := 1; n <= 25; n++ {
				for _, rest := range behind {
					checkBytes(t, filled(first, fill, n)+rest)
				}
			}
		}
	}
	for n := 1; n < replyEnd-2; n++ {
		checkError(t, filled(2, 0, n)+"\x01\x00", n+2, api.ErrShort)
	}
	checkGet(t, filled(2, 0, 20), least())
	checkGet(t, filled(2, 0, 22), with(least(), "Subs", []api.Sub{{}}))
	checkError(t, filled(2, 0, 19), 19, api.ErrShort)
	checkError(t, filled(2, 0, 21), 20, api.ErrShort)
	checkGet(t, filled(4, 0, 2), ack())
	checkError(t, filled(4, 0, 3), 2, api.ErrShort)
	checkGet(t, filled(4, 0, 4), with(ack(), "Subs", []api.Sub{{}}))
}

// Bytes of a head alone, and of one and two more.
func TestP15_1GetFirstSizes(t *testing.T) {
	for _, m := range heads() {
		b := spelled(m)
		checkGet(t, b, m)
		for v := range 256 {
			kind := string([]byte{byte(v)})
			checkError(t, b+kind, endOf(m), api.ErrShort)
			checkGet(t, b+kind+"\x00", with(m, "Subs", []api.Sub{{Type: v}}))
			for _, size := range []string{"\x01", "\x02", "\x80", "\xff"} {
				checkError(t, b+kind+size, endOf(m), api.ErrShort)
			}
		}
	}
}

// rests are what stands behind a head: nothing, extensions, and some that aren't
// all there.
func rests() []string {
	return []string{"", "\x01\x00", "\x01", "\x01\x04", "\x01\x04abc", "\x02\x00\x01\xff", spelledSubs([]api.Sub{sized(1, 255)}), spelledSubs([]api.Sub{sized(1, 255)})[:256]}
}

// Each bit of a reply that must be 0 is told alone, and with others, at the
// second byte, and ahead of an extension that isn't all there.
func TestP15_1GetZeroOfReply(t *testing.T) {
	for _, m := range []api.Msg{plain(), least(), greatest()} {
		for _, rest := range rests() {
			for v := range 256 {
				b := []byte(spelled(m) + rest)
				b[1] = byte(v)
				if v%64 != 0 {
					checkError(t, string(b), 1, api.ErrZero)
				}
				b[1], b[2] = 0, byte(v)
				if v >= 32 {
					checkError(t, string(b), 1, api.ErrZero)
				}
				b[1] = 0xc5
				checkError(t, string(b), 1, api.ErrZero)
			}
		}
	}
}

// Each bit of the second byte is told alone, and with others, of what
// acknowledges.
func TestP15_1GetZeroOfAck(t *testing.T) {
	for _, rest := range append(rests(), strings.Repeat("\x00", 18), filled(2, 0, 20)) {
		for bit := range 8 {
			checkError(t, "\x04"+string([]byte{1 << bit})+rest, 1, api.ErrZero)
		}
		for v := 1; v < 256; v++ {
			checkError(t, "\x04"+string([]byte{byte(v)})+rest, 1, api.ErrZero)
		}
	}
}

// No other bit of a reply must be 0.
func TestP15_1GetOtherBits(t *testing.T) {
	for bit := 8; bit < 8*replyEnd; bit++ {
		b := []byte(spelled(least()))
		b[bit/8] |= 0x80 >> (bit % 8)
		if bit >= 10 && bit < 19 {
			checkError(t, string(b), 1, api.ErrZero)
		} else if m, at, err := Get(string(b)); at != 0 || err != api.OK || spelled(m) != string(b) {
			t.Errorf("the bit %d: %s, at %d, error %d", bit, sketch(m), at, err)
		}
	}
}

// No other byte of what acknowledges must be 0: behind the second one there are
// extensions, which may be what a reply's head can't.
func TestP15_1GetBehindAck(t *testing.T) {
	for kind := range 256 {
		for size := range 256 {
			e := sized(kind, size)
			checkGet(t, "\x04\x00"+spelledSubs([]api.Sub{e}), with(ack(), "Subs", []api.Sub{e}))
		}
	}
}

// An extension that isn't all there is told by where it begins in all bytes.
func TestP15_1GetShortExtension(t *testing.T) {
	ahead := []string{"", "\x02\x00", "\x00\x00", "\x01\x04abcd", "\x02\x00\x01\x04abcd", spelledSubs([]api.Sub{sized(9, 255)}), strings.Repeat("\x07\x01a", 61)}
	cuts := []string{"\x00", "\x01", "\xff", "\x01\x01", "\x01\xff", "\x00\x01", "\x01\x04abc", "\x05\xff" + strings.Repeat("\x00", 254), "\x05\x80" + strings.Repeat("a", 127)}
	for _, m := range heads() {
		for _, first := range ahead {
			for _, cut := range cuts {
				checkError(t, spelled(m)+first+cut, endOf(m)+len(first), api.ErrShort)
			}
		}
	}
}

// checkCuts holds every cut of the bytes of m to be the message with those
// extensions that are all there, or to tell where the one begins that isn't.
func checkCuts(t *testing.T, m api.Msg) {
	t.Helper()
	b := spelled(m)
	places := []int{endOf(m)}
	for i := range m.Subs {
		places = append(places, endOf(m)+len(spelledSubs(m.Subs[:i+1])))
	}
	for n := 1; n <= len(b); n++ {
		i, whole := slices.BinarySearch(places, n)
		switch {
		case n < endOf(m):
			checkError(t, b[:n], n, api.ErrShort)
		case whole:
			checkGet(t, b[:n], with(m, "Subs", m.Subs[:i]))
		default:
			checkError(t, b[:n], places[i-1], api.ErrShort)
		}
	}
}

func TestP15_1EveryCut(t *testing.T) {
	for _, m := range messages() {
		checkCuts(t, m)
	}
	r := rand.New(rand.NewSource(1))
	for range 200 {
		checkCuts(t, someMessage(r))
	}
}

// Bytes that begin otherwise aren't asked for; they end without a message all
// the same.
func TestGetOfOthers(t *testing.T) {
	for first := range 256 {
		if first == 2 || first == 4 {
			continue
		}
		for _, n := range []int{1, 2, 20, 22} {
			if m, _, err := Get(filled(byte(first), 0, n)); !same(m, api.Msg{}) || err == api.OK {
				t.Errorf("%d bytes that begin with %d: %s, error %d", n, first, sketch(m), err)
			}
		}
	}
	if m, _, err := Get(""); !same(m, api.Msg{}) || err == api.OK {
		t.Errorf("no bytes: %s, error %d", sketch(m), err)
	}
}
