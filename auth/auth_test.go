package auth

import (
	"strings"
	"testing"
)

const (
	// password is an entry of the type 2, with a password of 16 bytes; said is
	// what it says.
	password = "\xff\xff\x00\x02abcdefghijklmnop"
	said     = "\x00\x02abcdefghijklmnop"
	// counted is the bytes 1 to 18, so that each one tells its place.
	counted = "\x01\x02\x03\x04\x05\x06\x07\x08\x09\x0a\x0b\x0c\x0d\x0e\x0f\x10\x11\x12"
	// route is an entry of RIP that is none of authentication.
	route = "\x00\x02\x01\x02\x0a\x01\x02\x00\xff\xff\xfe\x00\x0a\x00\x00\x01\x00\x00\x00\x05"
)

// fills are bytes of which texts of any size are made.
var fills = []string{"\x00", "\x01", "\x02", "a", "\x7f", "\x80", "\xfe", "\xff", "\x00\xff", "\xff\x00"}

// says are texts of 18 bytes: of each byte alone, with each byte set, to each
// value, at each place, and such as begin like a mark, or more than one.
func says() []string {
	noughts, all := strings.Repeat("\x00", 18), strings.Repeat("\xff", 18)
	list := []string{said, counted, "\xff\xff" + said[:16], "\xff\xff\xff\xff" + said[:14], said[:16] + "\xff\xff", password[:18]}
	for value := range 256 {
		part := string([]byte{byte(value)})
		list = append(list, strings.Repeat(part, 18))
		for at := range 18 {
			list = append(list, over(noughts, at, part), over(all, at, part), over(counted, at, part))
		}
	}
	return list
}

// sizes are numbers of bytes, and those that have the last bits of 18 or 20.
func sizes() []int {
	list := []int{400, 512 + 18, 512 + 20, 1 << 10, 65535, 65536, 65536 + 18, 65536 + 20, 1 << 20, 1<<20 + 18, 1<<20 + 20}
	for n := range 300 {
		list = append(list, n)
	}
	return list
}

// over is s with what stands from at on replaced by part.
func over(s string, at int, part string) string {
	return s[:at] + part + s[at+len(part):]
}

// long is a text of n bytes, made of fill.
func long(fill string, n int) string {
	return strings.Repeat(fill, n/len(fill)+1)[:n]
}

// checkEntry holds Is and Get to say that s is an entry that says so.
func checkEntry(t *testing.T, s, want string) {
	t.Helper()
	if !Is(s) {
		t.Errorf("Is(%q) = false", s)
	}
	if got, ok := Get(s); got != want || !ok {
		t.Errorf("Get(%q) = %q, %t; want %q", s, got, ok, want)
	}
}

// checkNoEntry holds Is and Get to say that s is no entry.
func checkNoEntry(t *testing.T, s string) {
	t.Helper()
	head := s[:min(len(s), 40)]
	if Is(s) {
		t.Errorf("Is of %d bytes, %q, = true", len(s), head)
	}
	if got, ok := Get(s); got != "" || ok {
		t.Errorf("Get of %d bytes, %q, = %q, %t; want nothing", len(s), head, got, ok)
	}
}

// checkPut holds what Put answers against what it should.
func checkPut(t *testing.T, says, want string) {
	t.Helper()
	if got, ok := Put(says); got != want || !ok {
		t.Errorf("Put(%q) = %q, %t; want %q", says, got, ok, want)
	}
}

// checkNoPut holds Put to say that there is no entry that says so.
func checkNoPut(t *testing.T, says string) {
	t.Helper()
	if got, ok := Put(says); got != "" || ok {
		t.Errorf("Put of %d bytes = %q, %t; want nothing", len(says), got, ok)
	}
}

func TestP9_1Examples(t *testing.T) {
	checkEntry(t, password, said)
	checkPut(t, said, password)
	checkEntry(t, "\xff\xff"+counted, counted)
	checkPut(t, counted, "\xff\xff"+counted)
	checkNoEntry(t, route)
}

// All other bytes may be any, those that look like a mark too.
func TestP9_1SaysAnything(t *testing.T) {
	for _, s := range says() {
		checkEntry(t, "\xff\xff"+s, s)
		checkPut(t, s, "\xff\xff"+s)
	}
}

// The two first bytes make it an entry: each pair of them is asked for.
func TestP9_1FirstBytes(t *testing.T) {
	for _, rest := range []string{said, counted, strings.Repeat("\x00", 18), strings.Repeat("\xff", 18)} {
		for first := range 256 {
			for second := range 256 {
				s := string([]byte{byte(first), byte(second)}) + rest
				if first == 255 && second == 255 {
					checkEntry(t, s, rest)
				} else {
					checkNoEntry(t, s)
				}
			}
		}
	}
}

// The pairs next to the one that makes an entry, one byte or the other apart.
func TestP9_1FirstBytesAlmost(t *testing.T) {
	for _, fill := range fills {
		rest := long(fill, 18)
		checkEntry(t, "\xff\xff"+rest, rest)
		for _, head := range []string{"\xff\xfe", "\xfe\xff", "\x00\xff", "\xff\x00", "\xfe\xfe", "\x00\x00", "\x7f\xff", "\xff\x7f"} {
			checkNoEntry(t, head+rest)
		}
	}
}

// A mark anywhere but at the beginning makes no entry.
func TestP9_1MarkElsewhere(t *testing.T) {
	for at := 1; at <= 18; at++ {
		checkNoEntry(t, over(strings.Repeat("\x00", 20), at, "\xff\xff"))
		checkNoEntry(t, over(route, at, "\xff\xff"))
	}
	checkNoEntry(t, said+"\xff\xff")
	checkNoEntry(t, "\x00"+password[:19])
	checkNoEntry(t, " "+password[:19])
}

// The mark is two bytes, not letters that are written like it: the bytes of
// the letter 255, or of the one that stands for bytes that are no letter.
func TestP9_1MarkIsBytes(t *testing.T) {
	checkNoEntry(t, "\u00ff\u00ff"+said[:16])
	checkNoEntry(t, "\u00ff"+said)
	checkNoEntry(t, "\ufffd\ufffd"+said[:14])
	checkNoEntry(t, "\\xff\\xff"+said[:12])
	checkNoEntry(t, "ff"+said)
	checkNoEntry(t, "FF"+said)
}

// Fewer bytes, or more, are no entry, whatever they are.
func TestP9_1OtherNumbersOfBytes(t *testing.T) {
	for _, n := range sizes() {
		for _, fill := range append(fills, password, route, said) {
			s := long(fill, n)
			marked := "\xff\xff" + s
			if n != 20 {
				checkNoEntry(t, s)
				checkNoEntry(t, marked[:n])
			}
			if n != 18 {
				checkNoEntry(t, marked)
				checkNoPut(t, s)
			}
		}
	}
}

// The sizes at the edges, of noughts and of 255s.
func TestP9_1Edges(t *testing.T) {
	for _, n := range []int{0, 1, 2, 17, 18, 19, 20, 21, 40} {
		noughts, all := strings.Repeat("\x00", n), strings.Repeat("\xff", n)
		checkNoEntry(t, noughts)
		if n == 20 {
			checkEntry(t, all, all[:18])
		} else {
			checkNoEntry(t, all)
		}
		for _, s := range []string{noughts, all} {
			if n == 18 {
				checkPut(t, s, "\xff\xff"+s)
			} else {
				checkNoPut(t, s)
			}
		}
	}
}

// A whole entry with something ahead or behind is none, nor is one cut off.
func TestP9_1MoreOrLess(t *testing.T) {
	for _, s := range []string{password, "\xff\xff" + counted, "\xff\xff" + strings.Repeat("\x00", 18)} {
		for n := range 20 {
			checkNoEntry(t, s[:n])
			checkNoEntry(t, s[20-n:])
		}
		for _, more := range []string{"\x00", "\xff", "\xff\xff", "\n", " ", s} {
			checkNoEntry(t, s+more)
			checkNoEntry(t, more+s)
		}
	}
	for _, s := range []string{said, counted} {
		for n := range 18 {
			checkNoPut(t, s[:n])
			checkNoPut(t, s[18-n:])
		}
		for _, more := range []string{"\x00", "\xff", "\xff\xff", "\n", " ", s} {
			checkNoPut(t, s+more)
			checkNoPut(t, more+s)
		}
	}
}

// Sizes are of bytes, not of letters.
func TestP9_1SizesAreOfBytes(t *testing.T) {
	nine, eighteen := strings.Repeat("é", 9), strings.Repeat("é", 18)
	checkEntry(t, "\xff\xff"+nine, nine)
	checkPut(t, nine, "\xff\xff"+nine)
	checkNoEntry(t, "\xff\xff"+eighteen)
	checkNoPut(t, eighteen)
}

// A whole entry isn't what another says.
func TestP9_1PutOfAnEntry(t *testing.T) {
	checkNoPut(t, password)
	checkNoPut(t, route)
	checkNoPut(t, said[2:])
}

// A call hangs on its argument alone: what was none leaves nothing behind.
func TestP9_1Again(t *testing.T) {
	for range 3 {
		checkNoEntry(t, route)
		checkNoPut(t, password)
		checkEntry(t, password, said)
		checkPut(t, said, password)
	}
}

// What is said comes back of its entry.
func TestP9_2SaysComesBack(t *testing.T) {
	for _, s := range says() {
		entry, is := Put(s)
		if got, ok := Get(entry); !is || len(entry) != 20 || !Is(entry) || got != s || !ok {
			t.Errorf("%q comes back of %q, %t as %q, %t", s, entry, is, got, ok)
		}
	}
}

// An entry comes back of what it says.
func TestP9_2EntryComesBack(t *testing.T) {
	for _, s := range says() {
		entry := "\xff\xff" + s
		what, is := Get(entry)
		if got, ok := Put(what); !is || len(what) != 18 || got != entry || !ok {
			t.Errorf("%q comes back of %q, %t as %q, %t", entry, what, is, got, ok)
		}
	}
}

// Texts gone through in steps that meet all kinds of bytes, either way round.
func TestP9_2ManyComeBack(t *testing.T) {
	m := uint32(1)
	for range 1 << 14 {
		b := make([]byte, 18)
		for i := range b {
			m = m*1664525 + 1013904223
			b[i] = byte(m >> 24)
		}
		checkEntry(t, "\xff\xff"+string(b), string(b))
		checkPut(t, string(b), "\xff\xff"+string(b))
	}
}

// Where there is nothing, nothing comes back either.
func TestP9_2OfNothing(t *testing.T) {
	what, _ := Get(route)
	checkNoPut(t, what)
	entry, _ := Put(said + "\x00")
	checkNoEntry(t, entry)
}
