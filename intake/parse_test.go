package intake

import (
	"slices"
	"strings"
	"testing"

	"roadbook/api"
)

func TestP23_1ParseExamples(t *testing.T) {
	checkMessages(t, "\x2a\x02\x00\x00", nil)
	checkMessages(t, "\x2a\x02\x00\x04\x03\x02\x00\x07", []api.Msg{{Kind: api.Ack, Nonce: 7}})
	name := "\x06\x0a\x00\x00" + id
	first := "\x08\x0c\x01\x80\x10\x00" + numbers + "\x0a\x01"
	second := "\x08\x0b\x01\x00\x18\x02" + numbers + "\x07"
	m := api.Msg{Kind: api.Update, Ae: 1, Prefix: "\x0a\x01\x00\x00", Plen: 16, Interval: 1, Seq: 2, Metric: 3, Id: id}
	n := api.Msg{Kind: api.Update, Ae: 1, Prefix: "\x0a\x01\x07\x00", Plen: 24, Interval: 1, Seq: 2, Metric: 3, Id: id}
	checkMessages(t, wrapped(name+first+second, ""), []api.Msg{m, n})
	checkMessages(t, wrapped(name+first+second, "\x00\x03\x00"), []api.Msg{m, n})
	checkMessages(t, wrapped(first+name+second, ""), []api.Msg{n})
	checkMessages(t, wrapped(name+"\x08\x0e"+first[2:]+"\x80\x00"+second, ""), []api.Msg{n})
	checkError(t, wrapped(second, ""), 4, api.ErrCtx)
	checkError(t, wrapped(name+second+first, ""), 16, api.ErrCtx)
	checkError(t, wrapped(name+second, first), 16, api.ErrCtx)
	checkError(t, "\x2a\x02\x00\x01\x03", 4, api.ErrShort)
	checkError(t, "\x2a\x02\x00\x00\x03", 4, api.ErrShort)
	checkError(t, "\x2a\x02\x00\x04\x00\x03\x01\x00", 5, api.ErrShort)
	checkMessages(t, "\x2a\x02\x00\x01\x00", nil)
	checkMessages(t, "\x2a\x02\x00\x00\x00", nil)
	checkMessages(t, "\x2a\x02\x00\x05\x63\x03abc", []api.Msg{{Kind: api.Opaque, Type: 99, Data: "abc"}})
}

// A head that isn't all there, whatever it says: told at its end.
func TestP23_1FewBytes(t *testing.T) {
	for _, b := range []string{"\x2a\x02\x00\x00", "\x2a\x02\x00\x05", "\x29\x01\x00\x00", "\x2b\x02\xff\xff", "\x00\x00\x00\x00"} {
		for n := range 4 {
			checkError(t, b[:n], n, api.ErrShort)
		}
		checkParse(t, b)
	}
	checkError(t, "\x2a\x02\x00\x01", 4, api.ErrShort)
}

// Each first and second byte, ahead of TLVs with and without an error, and of
// some that aren't all there: only 42 and 2 will do.
func TestP23_1FirstBytes(t *testing.T) {
	for first := range 256 {
		for second := range 256 {
			for _, rest := range []string{"\x00\x00", "\x00\x04\x03\x02\x00\x07", "\x00\x02\x03\x00", "\x00\x01\x03", "\x00\x00\x03", "\x00\x01"} {
				b := string([]byte{byte(first), byte(second)}) + rest
				switch {
				case first != 42:
					checkError(t, b, 0, api.ErrKind)
				case second != 2:
					checkError(t, b, 1, api.ErrKind)
				default:
					checkParse(t, b)
				}
			}
		}
	}
}

// A length that says more bytes than there are, by one and by more.
func TestP23_1Lengths(t *testing.T) {
	for _, s := range samples() {
		body := spelled([]api.Tlv{{Type: s.typ, Data: s.data}})
		for _, more := range []int{1, 2, 255, 256, 65000} {
			b := headed(42, 2, len(body)+more, body)
			checkError(t, b, len(b), api.ErrShort)
		}
		checkMessages(t, headed(42, 2, len(body), body), s.told)
		// The bytes from the length on are a trailer: of what stood behind the
		// body's first bytes, cut off.
		for n := range len(body) + 1 {
			checkParse(t, headed(42, 2, n, body))
		}
	}
}

// bodies are lists of TLVs without an error.
func bodies() [][]api.Tlv {
	known, _, _ := split(hopeful, 4)
	return [][]api.Tlv{
		known,
		goods(),
		{{Type: 3, Data: "\x00\x07"}, {Type: 99, Data: "abcdefgh"}},
		{{}, {Type: 1, Data: "\x00\x00\x00"}, {}, {Type: 4, Data: "\x80\x00\x00\x01\x00\x64"}, {}},
		{{Type: 255, Data: strings.Repeat("\xff", 255)}, {Type: 11}, {Type: 128, Data: "\x80"}},
	}
}

// begins is where that TLV of l begins, the bytes of which stand from base on,
// which the first n bytes cut off; and whether there is one.
func begins(l []api.Tlv, base, n int) (int, bool) {
	for _, v := range placed(l, base) {
		end := v.At + len(spelled([]api.Tlv{v}))
		if end > base+n {
			return v.At, v.At < base+n
		}
	}
	return 0, false
}

// Datagrams cut off at each byte: the body isn't all there.
func TestP23_1Cut(t *testing.T) {
	for _, l := range bodies() {
		b := wrapped(spelled(l), "")
		for n := range b {
			checkError(t, b[:n], n, api.ErrShort)
		}
		checkMessages(t, b, folded(placed(l, 4)).told)
	}
}

// Bodies cut off at each byte, whose length says so; without a trailer, with
// one, and with one that is cut off, too.
func TestP23_1CutBody(t *testing.T) {
	for _, l := range bodies() {
		body := spelled(l)
		for n := range body {
			at, cut := begins(l, 4, n)
			for _, trailer := range []string{"", "\x00", "\x03\x02\x00\x07", "\x03", "\x00\x03\x02\x00"} {
				b := wrapped(body[:n], trailer)
				if cut {
					checkError(t, b, at, api.ErrShort)
				} else {
					checkParse(t, b)
				}
			}
		}
	}
}

// Trailers cut off at each byte, behind bodies without an error.
func TestP23_1CutTrailer(t *testing.T) {
	for _, l := range bodies() {
		trailer := spelled(l)
		for _, m := range bodies() {
			body := spelled(m)
			told := folded(placed(m, 4)).told
			for n := range len(trailer) + 1 {
				b := wrapped(body, trailer[:n])
				if at, cut := begins(l, 4+len(body), n); cut {
					checkRead(t, b, answer{at: at, err: api.ErrShort})
				} else {
					checkRead(t, b, answer{told: told})
				}
			}
		}
	}
}

// A body's TLV with an error, beside a body that is cut off behind it, a trailer
// that is, and both: what is cut off is told first, the body's ahead.
func TestP23_1CutBesideErrors(t *testing.T) {
	cuts := []string{"\x03", "\x01", "\xff", "\x03\x02", "\x03\x02\x00", "\x06\x0a\x00\x00ABC", "\x63\xff" + strings.Repeat("z", 254)}
	good := spelled(goods()[6:12])
	for _, v := range wrongs() {
		bad := spelled([]api.Tlv{{Type: v.typ, Data: v.data}})
		for _, ahead := range []string{"", "\x00", "\x03\x02\x00\x07", good} {
			body := ahead + bad
			for _, trailer := range []string{"", "\x00\x00", "\x03\x02\x00\x07", bad, good} {
				checkError(t, wrapped(body, trailer), 4+len(ahead), v.err)
				checkError(t, wrapped(body+good, trailer), 4+len(ahead), v.err)
				for _, cut := range cuts {
					checkError(t, wrapped(body+cut, trailer), 4+len(body), api.ErrShort)
					checkError(t, wrapped(body+good+cut, trailer), 4+len(body+good), api.ErrShort)
					checkError(t, wrapped(body, trailer+cut), 4+len(body+trailer), api.ErrShort)
					checkError(t, wrapped(body+cut, trailer+cut), 4+len(body), api.ErrShort)
				}
			}
		}
	}
}

// Of a body's TLVs with an error the first one is told.
func TestP23_1TwoErrorsInBody(t *testing.T) {
	bad := wrongs()
	for _, v := range bad {
		for _, w := range bad {
			l := []api.Tlv{{Type: 3, Data: "\x00\x07"}, {Type: v.typ, Data: v.data}, {}, {Type: w.typ, Data: w.data}, {Type: 99}}
			checkRead(t, wrapped(spelled(l), ""), answer{at: 8, err: v.err})
		}
	}
}

// As many bytes as a datagram may have, in its body and in its trailer; and one
// more, which is told ahead of all that they say.
func TestP23_1Long(t *testing.T) {
	checkMessages(t, wrapped(strings.Repeat("\x00", room), ""), nil)
	checkMessages(t, wrapped("", strings.Repeat("\x00", room)), nil)
	ack := api.Msg{Kind: api.Ack, Nonce: 7}
	acks := strings.Repeat("\x03\x02\x00\x07", room/4)
	checkMessages(t, wrapped(acks+"\x00\x00\x00", ""), slices.Repeat([]api.Msg{ack}, room/4))
	checkMessages(t, wrapped(acks[:8], acks[8:]+"\x00\x00\x00"), []api.Msg{ack, ack})
	checkError(t, wrapped(acks+"\x00\x00\x03", ""), limit-1, api.ErrShort)
	checkError(t, wrapped(acks, "\x00\x00\x03"), limit-1, api.ErrShort)
	checkError(t, wrapped(acks+"\x00\x03\x00", ""), limit-2, api.ErrShort)
	checkMessages(t, wrapped(acks, "\x00\x03\x00"), slices.Repeat([]api.Msg{ack}, room/4))
	opaque := api.Msg{Kind: api.Opaque, Type: 200}
	checkMessages(t, wrapped(strings.Repeat("\xc8\x00", room/2), "\x00"), slices.Repeat([]api.Msg{opaque}, room/2))
	for _, b := range []string{
		wrapped(acks+"\x00\x00\x00", "\x00"),
		wrapped("", strings.Repeat("\x00", room+1)),
		wrapped(acks+"\x00\x00\x03", "\x03"),
		wrapped("\x03\x00"+acks[4:]+"\x00\x00\x00", "\x00\x00\x00"),
		strings.Repeat("\x00", limit+1),
		strings.Repeat("\x2a\x02", limit),
		headed(42, 3, 4, acks+"\x00\x00\x00\x00"),
		headed(42, 2, room+1, acks+"\x00\x00\x00\x00"),
		strings.Repeat("\x00", 1<<20),
	} {
		checkError(t, b, limit, api.ErrLong)
	}
}

// Each bit of datagrams, the other way round.
func TestP23_1EachBit(t *testing.T) {
	for _, l := range bodies() {
		for _, trailer := range []string{"", "\x00\x03\x02\x00\x07"} {
			b := []byte(wrapped(spelled(l), trailer))
			for i := range 8 * len(b) {
				b[i/8] ^= 0x80 >> (i % 8)
				checkParse(t, string(b))
				b[i/8] ^= 0x80 >> (i % 8)
			}
		}
	}
}
