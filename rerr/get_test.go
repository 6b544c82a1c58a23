package rerr

import (
	"math/rand"
	"slices"
	"strings"
	"testing"

	"roadbook/api"
)

// counts are those whose bytes are gone through; bits are bytes one of whose
// lowest seven bits, or several, are 1, and highBits also those with the highest
// one alone.
var counts = []byte{0, 1, 2, 3, 254, 255}

func bits() []byte {
	return []byte{1, 2, 4, 8, 16, 32, 64, 3, 127, 0x81, 0xc0, 0xff}
}

func highBits() []byte { return append(bits(), 128) }

// behind are extensions that are all there, of 0 and 255 bytes among them.
func behind() []string {
	return []string{"", "\x01\x00", "\x00\x00", "\xff\xff" + strings.Repeat("a", 255), "\x00\xff" + strings.Repeat("\x00", 255), spelledSubs([]api.Sub{sized(255, 255), {Type: 255}, sized(1, 255)})}
}

// broken are extensions of which one isn't all there, the first one.
func broken() []string {
	return []string{"\x00", "\x01", "\xff", "\x01\x01", "\x01\xff", "\x00\x01", "\x01\x04abc", "\x05\xff" + strings.Repeat("\x00", 254), "\x05\x80" + strings.Repeat("a", 127)}
}

// Fewer than 4 bytes are told ahead of all else, at their end: bits that must be
// 0 are not looked at yet.
func TestP16_1GetShortHead(t *testing.T) {
	for n := 1; n < headEnd; n++ {
		for second := range 256 {
			for _, third := range append(highBits(), 0) {
				checkError(t, headed(byte(second), third, 0, 0, n), n, api.ErrShort)
			}
		}
	}
}

// Bytes of all sizes about those of a head, and of one and two destinations.
func TestP16_1GetSizes(t *testing.T) {
	for _, second := range append(highBits(), 0) {
		for _, third := range append(highBits(), 0) {
			for _, count := range counts {
				for _, fill := range []byte{0, 1, 2, 3, 128, 255} {
					for n := 1; n <= 30; n++ {
						checkBytes(t, headed(second, third, count, fill, n))
					}
				}
			}
		}
	}
	one := spelled(least())
	checkError(t, one[:1], 1, api.ErrShort)
	checkError(t, one[:2], 2, api.ErrShort)
	checkError(t, one[:3], 3, api.ErrShort)
	checkError(t, one[:4], 4, api.ErrShort)
	checkError(t, one[:5], 5, api.ErrShort)
	checkError(t, one[:11], 11, api.ErrShort)
	checkGet(t, one, least())
	checkError(t, one+"\x00", 12, api.ErrShort)
	checkGet(t, one+"\x00\x00", with(least(), "Subs", []api.Sub{{}}))
}

// Counts with exactly as many bytes as they ask, with fewer and more, and with
// extensions behind them.
func TestP16_1GetCounts(t *testing.T) {
	for n := 1; n <= 255; n++ {
		m := api.Msg{Kind: api.Rerr, Flags: n % 2, List: dests(n)}
		b := spelled(m)
		for _, rest := range behind() {
			checkBytes(t, b+rest)
		}
		checkGet(t, b, m)
		checkGet(t, b+"\x09\x00", with(m, "Subs", []api.Sub{{Type: 9}}))
		checkGet(t, b+spelledSubs([]api.Sub{sized(9, 255)}), with(m, "Subs", []api.Sub{sized(9, 255)}))
		checkError(t, b[:len(b)-1], len(b)-1, api.ErrShort)
		checkError(t, b[:len(b)-8], len(b)-8, api.ErrShort)
		checkError(t, b+"\x00", len(b), api.ErrShort)
	}
}

// A count that asks for other bytes than there are: what stands behind the
// destinations is told as extensions, or there are too few.
func TestP16_1GetOtherCount(t *testing.T) {
	for _, n := range []int{1, 2, 3, 254, 255} {
		m := api.Msg{Kind: api.Rerr, Flags: 1, List: dests(n)}
		for count := range 256 {
			for _, rest := range behind() {
				b := []byte(spelled(m) + rest)
				b[3] = byte(count)
				checkBytes(t, string(b))
			}
		}
	}
	for _, rest := range behind() {
		// The bytes of a destination that isn't counted are an extension.
		checkGet(t, "\x03\x00\x00\x01abcd\x00\x00\x00\x08\x65\x06ijkl\x00\x09"+rest, api.Msg{
			Kind: api.Rerr, List: []api.Dest{{Addr: "abcd", Seq: 8}}, Subs: append([]api.Sub{{Type: 0x65, Data: "ijkl\x00\x09"}}, subsOf(t, rest)...),
		})
		// The bytes of an extension that is counted as a destination are one.
		if len(rest) >= 8 {
			seq := int(rest[4])<<24 | int(rest[5])<<16 | int(rest[6])<<8 | int(rest[7])
			checkGet(t, "\x03\x00\x00\x02abcd\x00\x00\x00\x08"+rest[:8], api.Msg{Kind: api.Rerr, List: []api.Dest{{Addr: "abcd", Seq: 8}, {Addr: rest[:4], Seq: seq}}})
		}
	}
}

// subsOf is the extensions whose bytes s is.
func subsOf(t *testing.T, s string) []api.Sub {
	t.Helper()
	var l []api.Sub
	for at := 0; at < len(s); at += 2 + len(l[len(l)-1].Data) {
		l = append(l, api.Sub{Type: int(s[at]), Data: s[at+2 : at+2+int(s[at+1])]})
	}
	return l
}

// Each bit that must be 0 is told alone, and with others, at the second byte,
// ahead of an extension that isn't all there.
func TestP16_1GetZero(t *testing.T) {
	for _, m := range heads() {
		for _, rest := range append(behind(), broken()...) {
			for v := range 256 {
				b := []byte(spelled(m) + rest)
				b[1] = byte(v)
				if v%128 != 0 {
					checkError(t, string(b), 1, api.ErrZero)
				}
				b[1], b[2] = 0, byte(v)
				if v != 0 {
					checkError(t, string(b), 1, api.ErrZero)
				}
				b[1] = 0x80
				if v != 0 {
					checkError(t, string(b), 1, api.ErrZero)
				}
				b[1] = 0xa5
				checkError(t, string(b), 1, api.ErrZero)
			}
		}
	}
}

// No other bit must be 0.
func TestP16_1GetOtherBits(t *testing.T) {
	for bit := 8; bit < 8*12; bit++ {
		b := []byte(spelled(least()))
		b[bit/8] |= 0x80 >> (bit % 8)
		switch {
		case bit > 8 && bit < 24:
			checkError(t, string(b), 1, api.ErrZero)
		case bit >= 24 && bit < 31:
			checkError(t, string(b), 12, api.ErrShort)
		default:
			if m, at, err := Get(string(b)); at != 0 || err != api.OK || spelled(m) != string(b) {
				t.Errorf("the bit %d: %s, at %d, error %d", bit, sketch(m), at, err)
			}
		}
	}
}

// Bits that must be 0 are told ahead of a count of 0, and ahead of destinations
// that aren't all there; a count of 0 ahead of all behind it.
func TestP16_1GetFirstOfSeveral(t *testing.T) {
	for _, rest := range append(behind(), broken()...) {
		for _, v := range bits() {
			checkError(t, "\x03"+string([]byte{v})+"\x00\x00"+rest, 1, api.ErrZero)
			checkError(t, "\x03"+string([]byte{v, v})+"\x00"+rest, 1, api.ErrZero)
		}
		for _, v := range highBits() {
			checkError(t, "\x03\x00"+string([]byte{v})+"\x00"+rest, 1, api.ErrZero)
			checkError(t, "\x03\x80"+string([]byte{v})+"\x00"+rest, 1, api.ErrZero)
		}
		checkError(t, "\x03\x00\x00\x00"+rest, 3, api.ErrCount)
		checkError(t, "\x03\x80\x00\x00"+rest, 3, api.ErrCount)
	}
	for _, count := range []byte{1, 2, 3, 254, 255} {
		asked := headEnd + 8*int(count)
		for n := headEnd; n < asked; n++ {
			for _, fill := range []byte{0, 255} {
				checkError(t, headed(0, 0, count, fill, n), n, api.ErrShort)
				checkError(t, headed(128, 0, count, fill, n), n, api.ErrShort)
				checkError(t, headed(1, 0, count, fill, n), 1, api.ErrZero)
				checkError(t, headed(64, 0, count, fill, n), 1, api.ErrZero)
				checkError(t, headed(0, 128, count, fill, n), 1, api.ErrZero)
				checkError(t, headed(128, 1, count, fill, n), 1, api.ErrZero)
			}
		}
	}
}

// What is there of destinations that aren't all there is no extension, though it
// would be one.
func TestP16_1GetNoExtensionsWithin(t *testing.T) {
	for _, rest := range append(behind(), broken()...) {
		b := "\x03\x00\x00\xff" + rest
		checkError(t, b, len(b), api.ErrShort)
		b = "\x03\x80\x00\xffabcd\x00\x00\x00\x08" + rest
		checkError(t, b, len(b), api.ErrShort)
	}
}

// An extension that isn't all there is told by where it begins in all bytes.
func TestP16_1GetShortExtension(t *testing.T) {
	ahead := append(behind(), "\x01\x04abcd", "\x02\x00\x01\x04abcd", strings.Repeat("\x07\x01a", 61))
	for _, m := range append(heads(), with(plain(), "List", dests(2)), with(plain(), "List", dests(254))) {
		for _, first := range ahead {
			for _, cut := range broken() {
				checkError(t, spelled(m)+first+cut, endOf(m)+len(first), api.ErrShort)
			}
		}
	}
}

// Bytes of an error alone, and of one and two more.
func TestP16_1GetFirstSizes(t *testing.T) {
	for _, m := range heads() {
		b := spelled(m)
		checkGet(t, b, m)
		for v := range 256 {
			kind := string([]byte{byte(v)})
			checkError(t, b+kind, endOf(m), api.ErrShort)
			checkGet(t, b+kind+"\x00", with(m, "Subs", []api.Sub{{Type: v}}))
			for _, size := range []string{"\x01", "\x02", "\x80", "\xff"} {
				checkError(t, b+kind+size, endOf(m), api.ErrShort)
			}
		}
	}
}

// checkCuts holds every cut of the bytes of m to be the error with those
// extensions that are all there, or to tell where the one begins that isn't.
func checkCuts(t *testing.T, m api.Msg) {
	t.Helper()
	b := spelled(m)
	places := []int{endOf(m)}
	for _, e := range m.Subs {
		places = append(places, places[len(places)-1]+2+len(e.Data))
	}
	for n := 1; n <= len(b); n++ {
		i, whole := slices.BinarySearch(places, n)
		switch {
		case n < endOf(m):
			checkError(t, b[:n], n, api.ErrShort)
		case whole:
			checkGet(t, b[:n], with(m, "Subs", m.Subs[:i]))
		default:
			checkError(t, b[:n], places[i-1], api.ErrShort)
		}
	}
}

func TestP16_1EveryCut(t *testing.T) {
	for _, m := range messages() {
		checkCuts(t, m)
	}
	r := rand.New(rand.NewSource(1))
	for range 200 {
		checkCuts(t, someMessage(r))
	}
}

// Bytes that begin otherwise aren't asked for; they end all the same, at a place
// within.
func TestGetOfOthers(t *testing.T) {
	for first := range 256 {
		for n := range 40 {
			b := (string([]byte{byte(first)}) + "\x00\x00\x01" + strings.Repeat("\x00", 40))[:n]
			if _, at, _ := Get(b); at < 0 || at > n {
				t.Errorf("%d bytes that begin with %d: at %d", n, first, at)
			}
		}
	}
}
