package frame

import (
	"math/rand"
	"strings"
	"testing"

	"roadbook/api"
)

// trailers are what may stand behind a body.
func trailers() []string {
	return []string{"", "\x00", "\x01", "a", "\xff", "\x2a", "\x2a\x02\x00\x00", "\x00\x00\x00", "\x01\x04ab", counted(255), counted(256), counted(1000)}
}

func TestP18_1Examples(t *testing.T) {
	checkBody(t, "\x2a\x02\x00\x00", "", "")
	checkWrap(t, "", "\x2a\x02\x00\x00")
	checkBody(t, "\x2a\x02\x00\x03abc", "abc", "")
	checkBody(t, "\x2a\x02\x00\x03abcde", "abc", "de")
	checkWrap(t, "abc", "\x2a\x02\x00\x03abc")
	checkBody(t, "\x2a\x02\x00\x00\x2a\x02\x00\x00", "", "\x2a\x02\x00\x00")
	checkBody(t, "\x2a\x02\x00\x04\x2a\x02\x00\x00", "\x2a\x02\x00\x00", "")
	checkWrap(t, "\x2a\x02\x00\x00", "\x2a\x02\x00\x04\x2a\x02\x00\x00")
	checkBody(t, "\x2a\x02\x01\x02"+counted(258)+"z", counted(258), "z")
	checkWrap(t, counted(258), "\x2a\x02\x01\x02"+counted(258))
}

// Fewer than 4 bytes are told ahead of what they say, at their end.
func TestP18_1FewBytes(t *testing.T) {
	checkNoBody(t, "", 0, api.ErrShort)
	checkNoBody(t, "\x2a", 1, api.ErrShort)
	checkNoBody(t, "\x2a\x02", 2, api.ErrShort)
	checkNoBody(t, "\x2a\x02\x00", 3, api.ErrShort)
	for first := range 256 {
		checkNoBody(t, string([]byte{byte(first)}), 1, api.ErrShort)
		for second := range 256 {
			b := string([]byte{byte(first), byte(second)})
			checkNoBody(t, b, 2, api.ErrShort)
			checkNoBody(t, b+"\x00", 3, api.ErrShort)
			checkNoBody(t, b+"\xff", 3, api.ErrShort)
		}
	}
}

// Each first and second byte, with a body that is all there, and with one that
// isn't: only 42 and 2 will do, and the first one that doesn't is told.
func TestP18_1FirstBytes(t *testing.T) {
	for first := range 256 {
		for second := range 256 {
			for _, rest := range []string{"\x00\x00", "\x00\x00z", "\x00\x01", "\x00\x01a", "\x00\x01az", "\xff\xff", "\xff\xffabc", "\x2a\x02"} {
				b := string([]byte{byte(first), byte(second)}) + rest
				checkBytes(t, b)
				switch {
				case first != 42:
					checkNoBody(t, b, 0, api.ErrKind)
				case second != 2:
					checkNoBody(t, b, 1, api.ErrKind)
				}
			}
		}
	}
	checkNoBody(t, "\x29\x02\x00\x00", 0, api.ErrKind)
	checkNoBody(t, "\x2b\x02\x00\x00", 0, api.ErrKind)
	checkNoBody(t, "\x2a\x01\x00\x00", 1, api.ErrKind)
	checkNoBody(t, "\x2a\x03\x00\x00", 1, api.ErrKind)
	checkNoBody(t, "\x29\x01\x00\x00", 0, api.ErrKind)
	checkNoBody(t, "\x2b\x03\x00\x01", 0, api.ErrKind)
	checkNoBody(t, "\x02\x2a\x00\x00", 0, api.ErrKind)
}

// Bodies of many sizes, all there, with a trailer as long as there is room for
// one, and short of one byte and of more.
func TestP18_1BodySizes(t *testing.T) {
	for _, size := range bodySizes {
		for _, fill := range fills {
			body := long(fill, size)
			checkWrap(t, body, wrapped(body, ""))
			for _, trailer := range trailers() {
				if 4+size+len(trailer) > limit {
					checkNoBody(t, wrapped(body, trailer), limit, api.ErrLong)
				} else {
					checkBody(t, wrapped(body, trailer), body, trailer)
				}
			}
		}
		body := counted(size)
		checkWrap(t, body, wrapped(body, ""))
		checkBody(t, wrapped(body, ""), body, "")
		rest := counted(room - size)
		checkBody(t, wrapped(body, rest), body, rest)
		checkNoBody(t, wrapped(body, rest+"z"), limit, api.ErrLong)
		for _, less := range []int{1, 2, 3, size - 1, size} {
			if less > 0 && less <= size {
				checkNoBody(t, headed(42, 2, size, body[less:]), 4+size-less, api.ErrShort)
			}
		}
	}
}

// Lengths of all sizes that a head may tell, with as many bytes as it asks, one
// fewer and one more.
func TestP18_1Lengths(t *testing.T) {
	all := counted(limit + 1)
	for size := 0; size <= 65535; size += 5 {
		if size <= room {
			checkBody(t, headed(42, 2, size, all[:size]), all[:size], "")
		}
		if size < room {
			checkBody(t, headed(42, 2, size, all[:size+1]), all[:size], all[size:size+1])
		}
		if size > 0 {
			b := headed(42, 2, size, all[:min(size-1, room)])
			checkNoBody(t, b, len(b), api.ErrShort)
			checkNoBody(t, headed(42, 2, size, ""), 4, api.ErrShort)
		}
		if t.Failed() {
			return
		}
	}
}

// A body longer than a datagram has room for is never all there.
func TestP18_1NoRoomForBody(t *testing.T) {
	for size := room + 1; size <= 65535; size++ {
		for _, n := range []int{0, 1, 255, 65530, 65531} {
			checkNoBody(t, headed(42, 2, size, counted(n)), 4+n, api.ErrShort)
		}
		checkNoBody(t, headed(42, 2, size, counted(size)), limit, api.ErrLong)
		checkNoBody(t, headed(42, 2, size, counted(size+1)), limit, api.ErrLong)
	}
}

// More bytes than a datagram has are told first, at 65535, whatever they are.
func TestP18_1Long(t *testing.T) {
	for _, n := range []int{65536, 65537, 65538, 65539, 65540, 70000, 131070, 131071, 131072, 1 << 20} {
		for _, fill := range fills {
			checkNoBody(t, long(fill, n), limit, api.ErrLong)
		}
		for _, first := range []byte{41, 42, 43} {
			for _, second := range []byte{1, 2, 3} {
				for _, size := range []int{0, 1, 255, 256, 65531, 65535} {
					checkNoBody(t, headed(first, second, size, counted(n-4)), limit, api.ErrLong)
				}
			}
		}
	}
}

// As many bytes as a datagram may have, and one fewer, whatever they are.
func TestP18_1NotLong(t *testing.T) {
	for _, n := range []int{65533, 65534, 65535} {
		for _, fill := range fills {
			checkBytes(t, long(fill, n))
		}
		for _, first := range []byte{41, 42, 43} {
			for _, second := range []byte{1, 2, 3} {
				for _, size := range []int{0, 1, 255, 256, 65528, 65529, 65530, 65531, 65532, 65535} {
					checkBytes(t, headed(first, second, size, counted(n-4)))
				}
			}
		}
	}
}

// Of several errors the first one is told.
func TestP18_1FirstOfSeveral(t *testing.T) {
	for _, first := range []byte{0, 2, 41, 42, 43, 255} {
		for _, second := range []byte{0, 1, 2, 3, 42, 255} {
			whole := headed(first, second, 9, counted(9))
			for n := range len(whole) + 1 {
				checkBytes(t, whole[:n])
				if n < 4 {
					checkNoBody(t, whole[:n], n, api.ErrShort)
				}
			}
			checkBytes(t, whole+"z")
			checkNoBody(t, whole+strings.Repeat("\x00", limit), limit, api.ErrLong)
		}
	}
	checkNoBody(t, "\x29\x01\x00", 3, api.ErrShort)
	checkNoBody(t, "\x29\x01\x00\x05", 0, api.ErrKind)
	checkNoBody(t, "\x2a\x01\x00\x05", 1, api.ErrKind)
	checkNoBody(t, "\x2a\x02\x00\x05", 4, api.ErrShort)
	checkNoBody(t, "\x2a\x02\x00\x05abcd", 8, api.ErrShort)
	checkNoBody(t, "\x2a\x02\x05\x00abcd", 8, api.ErrShort)
}

// Bytes that are no datagram have no trailer: the chapter asks nothing of them,
// but no call panics.
func TestTrailerOfOthers(t *testing.T) {
	r := rand.New(rand.NewSource(1))
	for n := range 40 {
		for range 50 {
			b := someBytes(r, n)
			if _, _, err := Body(b); err != api.OK && Trailer(b) != "" {
				t.Errorf("Trailer(%q) = %q", b, Trailer(b))
			}
		}
	}
	for _, b := range []string{"", "\x2a", "\x2a\x02\x00", "\x2a\x02\x00\x01", "\x2a\x02\xff\xff", "\x2b\x02\x00\x00a", "\x2a\x03\x00\x00a", wrapped(counted(room), "z"), wrapped("", counted(limit))} {
		if got := Trailer(b); got != "" {
			t.Errorf("Trailer of %d bytes, %.60q, = %.60q", len(b), b, got)
		}
	}
}

// A body has at most 65531 bytes, and a datagram of its own, whatever they are.
func TestP18_1WrapSizes(t *testing.T) {
	for _, fill := range fills {
		for _, n := range []int{65532, 65533, 65534, 65535, 65536, 65537, 65540, 131072, 1 << 20} {
			checkNoWrap(t, long(fill, n))
		}
		checkWrap(t, long(fill, room), "\x2a\x02\xff\xfb"+long(fill, room))
		checkWrap(t, long(fill, room-1), "\x2a\x02\xff\xfa"+long(fill, room-1))
	}
	all := counted(room)
	for n := 0; n <= room; n += 7 {
		checkWrap(t, all[:n], headed(42, 2, n, all[:n]))
		if t.Failed() {
			return
		}
	}
}
