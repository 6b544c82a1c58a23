package aodv

import (
	"math/rand"
	"slices"
	"strings"
	"testing"

	"roadbook/api"
)

// broken are extensions of which one isn't all there, the first one.
func broken() []string {
	return []string{"\x00", "\x01", "\xff", "\x01\x01", "\x01\xff", "\x00\x01", "\x01\x04abc", "\x05\xff" + strings.Repeat("\x00", 254)}
}

// behind are extensions that are all there.
func behind() []string {
	return []string{"", "\x00\x00", "\x04\x00", "\x01\x04abcd", "\xff\xff" + strings.Repeat("a", 255)}
}

func TestP17_2Examples(t *testing.T) {
	checkError(t, "\x05\x00", 0, api.ErrKind)
	checkError(t, "", 0, api.ErrShort)
	checkParse(t, "\x04\x00", ack())
	checkParse(t, "\x04\x00\x01\x00", with(ack(), "Subs", []api.Sub{{Type: 1}}))
	checkParse(t, "\x03\x80\x00\x01abcd\x00\x00\x00\x08", api.Msg{Kind: api.Rerr, Flags: 1, List: []api.Dest{{Addr: "abcd", Seq: 8}}})
	checkParse(t, "\x02\x80\x1f\x05abcd\x00\x00\x00\x08efgh\x00\x00\x00\x09",
		api.Msg{Kind: api.Rrep, Flags: 2, Plen: 31, Hops: 5, Addr: "abcd", Seq: 8, Orig: "efgh", Interval: 9})
	checkParse(t, "\x01\x08\x00\x05\x00\x00\x00\x07abcd\x00\x00\x00\x08efgh\x00\x00\x00\x09",
		api.Msg{Kind: api.Rreq, Flags: 1, Hops: 5, Nonce: 7, Addr: "abcd", Seq: 8, Orig: "efgh", Seq2: 9})
}

// Each first byte, alone and with others behind: there are four kinds.
func TestP17_2FirstByte(t *testing.T) {
	for first := range 256 {
		kind := byte(first)
		alone := string([]byte{kind})
		if first >= 1 && first <= 4 {
			checkError(t, alone, 1, api.ErrShort)
		} else {
			checkError(t, alone, 0, api.ErrKind)
		}
		for n := 1; n <= 40; n++ {
			for _, fill := range []byte{0, 1, 2, 3, 4, 5, 128, 255} {
				checkBytes(t, filled(kind, fill, n))
			}
		}
		for _, m := range messages() {
			b := withByte(spelled(m), 0, kind)
			if first < 1 || first > 4 {
				checkError(t, b, 0, api.ErrKind)
			}
			checkBytes(t, b)
		}
	}
}

// Bytes of no kind are told so whatever stands behind the first one, and however
// few there are.
func TestP17_2OtherKinds(t *testing.T) {
	r := rand.New(rand.NewSource(1))
	for _, first := range []byte{0, 5, 6, 7, 8, 16, 42, 64, 127, 128, 129, 130, 131, 132, 254, 255} {
		alone := string([]byte{first})
		for n := range 50 {
			checkError(t, alone+someBytes(r, n), 0, api.ErrKind)
			checkError(t, alone+strings.Repeat("\x00", n), 0, api.ErrKind)
		}
		for _, m := range heads() {
			checkError(t, alone+spelled(m), 0, api.ErrKind)
			checkError(t, alone+spelled(m)[1:], 0, api.ErrKind)
			for _, rest := range broken() {
				checkError(t, alone+spelled(m)[1:]+rest, 0, api.ErrKind)
			}
		}
		for _, n := range []int{65533, 65534, 65535} {
			checkError(t, filled(first, 0, n), 0, api.ErrKind)
			checkError(t, filled(first, 255, n), 0, api.ErrKind)
		}
	}
}

// More bytes than a datagram has are told first, whatever they are.
func TestP17_2Long(t *testing.T) {
	for _, n := range []int{65536, 65537, 65538, 70000, 131070, 131071, 131072, 1 << 20} {
		for _, first := range []byte{0, 1, 2, 3, 4, 5, 128, 255} {
			for _, fill := range []byte{0, 1, 4, 255} {
				checkError(t, filled(first, fill, n), limit, api.ErrLong)
			}
		}
		for _, m := range heads() {
			checkError(t, spelled(long(m, n)), limit, api.ErrLong)
			checkError(t, spelled(long(m, limit))+strings.Repeat("\x00", n-limit), limit, api.ErrLong)
		}
	}
}

// As many bytes as a datagram may have, and one fewer, whatever they are.
func TestP17_2NotLong(t *testing.T) {
	for _, n := range []int{65533, 65534, 65535} {
		for _, first := range []byte{0, 1, 2, 3, 4, 5, 128, 255} {
			for _, fill := range []byte{0, 1, 2, 4, 255} {
				checkBytes(t, filled(first, fill, n))
			}
		}
		for _, m := range append(heads(), ends()...) {
			v := long(m, n)
			checkParse(t, spelled(v), v)
			last := len(v.Subs[len(v.Subs)-1].Data) + 2
			checkError(t, spelled(v)[:n-1], n-last, api.ErrShort)
			if n < limit {
				checkError(t, spelled(v)+"\x00", n, api.ErrShort)
			}
			if n+2 <= limit {
				checkParse(t, spelled(v)+"\x04\x00", with(v, "Subs", append(slices.Clip(v.Subs), api.Sub{Type: 4})))
			}
		}
	}
	// Noughts behind what acknowledges are so many empty extensions.
	checkParse(t, filled(4, 0, 65534), with(ack(), "Subs", make([]api.Sub, 32766)))
	checkError(t, filled(4, 0, 65535), 65534, api.ErrShort)
}

// Each kind's own first errors, at their places.
func TestP17_2ErrorsOfEachKind(t *testing.T) {
	for _, m := range heads() {
		b := spelled(m)
		for n := 1; n < len(b); n++ {
			checkError(t, b[:n], n, api.ErrShort)
		}
		for _, rest := range broken() {
			checkError(t, b+rest, len(b), api.ErrShort)
			for _, first := range behind() {
				checkError(t, b+first+rest, len(b)+len(first), api.ErrShort)
			}
		}
	}
	for v := range 256 {
		// Bits of the second byte, and of the third one.
		for _, m := range heads() {
			checkBytes(t, withByte(spelled(m), 1, byte(v)))
			if m.Kind != api.RrepAck {
				checkBytes(t, withByte(spelled(m), 2, byte(v)))
			}
		}
		if v != 0 {
			checkError(t, withByte(spelled(request()), 2, byte(v)), 1, api.ErrZero)
			checkError(t, withByte(spelled(lost()), 2, byte(v)), 1, api.ErrZero)
			checkError(t, withByte(spelled(ack()), 1, byte(v)), 1, api.ErrZero)
		}
	}
	checkError(t, withByte(spelled(request()), 1, 4), 1, api.ErrZero)
	checkError(t, withByte(spelled(reply()), 1, 32), 1, api.ErrZero)
	checkError(t, withByte(spelled(reply()), 2, 32), 1, api.ErrZero)
	checkError(t, withByte(spelled(lost()), 1, 64), 1, api.ErrZero)
	checkError(t, withByte(spelled(lost()), 3, 0), 3, api.ErrCount)
	checkError(t, withByte(spelled(lost()), 3, 4), 28, api.ErrShort)
	checkError(t, withByte(spelled(lost()), 3, 255), 28, api.ErrShort)
}

// Of several errors the first one is told, those of each kind among them.
func TestP17_2FirstOfSeveral(t *testing.T) {
	for _, rest := range broken() {
		for _, m := range heads() {
			b := withByte(spelled(m), 1, 255) + rest
			// Bits that must be 0, and an extension that isn't all there.
			checkError(t, b, 1, api.ErrZero)
			// Both, and no kind.
			checkError(t, withByte(b, 0, 0), 0, api.ErrKind)
			checkError(t, withByte(b, 0, 5), 0, api.ErrKind)
			// All that, and too long.
			far := b + strings.Repeat("\xff", limit)
			checkError(t, far, limit, api.ErrLong)
			checkError(t, withByte(far, 0, 5), limit, api.ErrLong)
		}
	}
	// Too few bytes are told ahead of bits that must be 0.
	checkError(t, filled(1, 255, 23), 23, api.ErrShort)
	checkError(t, filled(1, 255, 24), 1, api.ErrZero)
	checkError(t, filled(2, 255, 19), 19, api.ErrShort)
	checkError(t, filled(2, 255, 20), 1, api.ErrZero)
	checkError(t, filled(3, 255, 3), 3, api.ErrShort)
	checkError(t, filled(3, 255, 4), 1, api.ErrZero)
	checkError(t, filled(4, 255, 1), 1, api.ErrShort)
	checkError(t, filled(4, 255, 2), 1, api.ErrZero)
	// No destinations are told ahead of what is behind them.
	checkError(t, "\x03\x00\x00\x00\x01", 3, api.ErrCount)
	checkError(t, "\x03\x01\x00\x00\x01", 1, api.ErrZero)
	checkError(t, "\x03\x80\x00\x02abcd\x00\x00\x00\x08\x01", 13, api.ErrShort)
	checkError(t, "\x05\x01\x00\x00\x01", 0, api.ErrKind)
}

// Another kind's first byte lets the same bytes be read as that kind's.
func TestP17_2OtherKindsBytes(t *testing.T) {
	b := "\x00\x00\x01\x00\x00\x00\x00\x00\x00\x00\x00\x00\x00\x00\x00\x00\x00\x00\x00\x00\x00\x00\x00"
	nought := "\x00\x00\x00\x00"
	checkParse(t, "\x01"+b, api.Msg{Kind: api.Rreq, Hops: 1, Addr: nought, Orig: nought})
	checkParse(t, "\x02"+b, api.Msg{Kind: api.Rrep, Hops: 1, Addr: nought, Orig: nought, Subs: make([]api.Sub, 2)})
	checkParse(t, "\x03"+b, api.Msg{Kind: api.Rerr, List: []api.Dest{{Addr: nought}}, Subs: make([]api.Sub, 6)})
	checkParse(t, "\x04"+withByte(b, 2, 0), with(ack(), "Subs", make([]api.Sub, 11)))
}

// A datagram is one message: another one behind it is taken as extensions, or
// isn't all there.
func TestP17_2OneMessageAlone(t *testing.T) {
	for _, a := range heads() {
		for _, b := range heads() {
			checkBytes(t, spelled(a)+spelled(b))
		}
		checkParse(t, spelled(a)+spelled(ack()), with(a, "Subs", []api.Sub{{Type: 4}}))
	}
}

// Every cut of the bytes of a message is told by its own layer's error, or is a
// message with those extensions that are all there.
func TestP17_2EveryCut(t *testing.T) {
	r := rand.New(rand.NewSource(2))
	all := messages()
	for range 100 {
		all = append(all, someMessage(r))
	}
	for _, m := range all {
		b := spelled(m)
		for n := range len(b) + 1 {
			checkBytes(t, b[:n])
		}
	}
}

// What is answered shares no list with another answer, nor with itself.
func TestP17_2SharesNothing(t *testing.T) {
	for _, m := range messages() {
		b := spelled(m)
		one, _, _ := Parse(b)
		for i := range one[0].List {
			one[0].List[i] = api.Dest{Addr: "gone", Seq: -1}
		}
		for i := range one[0].Subs {
			one[0].Subs[i] = api.Sub{Type: -1, Data: "gone"}
		}
		one[0].Flags = -1
		checkParse(t, b, m)
		l := append(one[:1], api.Msg{Kind: -1})
		l[0].Kind = -1
		checkParse(t, b, m)
	}
}

// A call hangs on its argument alone.
func TestP17_2Again(t *testing.T) {
	for range 3 {
		for _, m := range messages() {
			checkParse(t, spelled(m), m)
			checkError(t, "", 0, api.ErrShort)
			checkParse(t, spelled(m), m)
			checkError(t, "\x05"+spelled(m), 0, api.ErrKind)
		}
	}
}
