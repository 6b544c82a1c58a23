package addr

import (
	"fmt"
	"regexp"
	"strconv"
	"strings"
	"testing"
)

const (
	// local is link-local; short is its short form.
	local = "\xfe\x80\x00\x00\x00\x00\x00\x00\x01\x02\x03\x04\x05\x06\x07\x08"
	short = "\x01\x02\x03\x04\x05\x06\x07\x08"
	// mapped is the mapped address of four.
	mapped = "\x00\x00\x00\x00\x00\x00\x00\x00\x00\x00\xff\xff\x0a\x01\x02\x03"
	four   = "\x0a\x01\x02\x03"
	// global is neither.
	global = "\x20\x01\x0d\xb8\x00\x00\x00\x10\x01\x00\xa0\xbc\x0d\xef\x00\x01"
)

// sizes are numbers of bytes; of an address there are 4 or 16 alone.
var sizes = []int{
	0, 1, 2, 3, 4, 5, 6, 7, 8, 9, 10, 12, 15, 16, 17, 18, 20, 24, 31, 32, 33, 64, 128, 255, 256, 257,
	256 + 4, 256 + 16, 1 << 16, 1<<16 + 4, 1<<16 + 8, 1<<16 + 16, 1 << 20,
}

// fills are bytes of which texts of any size are made.
var fills = []string{"\x00", "\x01", "\x80", "\xfe", "\xff", ".", ":", "0", "1", "a", " "}

// addresses are some of both families, the ends of all numbers among them.
func addresses() []string {
	list := []string{
		"\x00\x00\x00\x00", "\xff\xff\xff\xff", "\x00\xff\x00\xff", "\x7f\x00\x00\x01", "\x09\x0a\x63\x64",
		"\xc8\x00\x14\x02", "....", "::::", "1234", four, local, mapped, global,
		strings.Repeat("\x00", 16), strings.Repeat("\xff", 16), strings.Repeat("\x00\xff", 8),
		strings.Repeat("\xff\x00", 8), strings.Repeat("\x0f\xff", 8), strings.Repeat("\x10\x00", 8),
		strings.Repeat("\x00\x0f", 8), strings.Repeat("\x00\x10", 8), strings.Repeat("\x01\x00", 8),
		"0:1:2:3:4:5:6:7:", "0.0.0.0.0.0.0.0.",
	}
	m := uint64(1)
	for range 2000 {
		b := make([]byte, 16)
		for i := range b {
			m = m*6364136223846793005 + 1442695040888963407
			b[i] = byte(m >> 56)
			if m>>40&3 == 0 {
				b[i] = 0
			}
		}
		list = append(list, string(b), string(b[:4]))
	}
	return list
}

// spelled is a's text, written out in the words of the chapter.
func spelled(a string) (string, bool) {
	var n []any
	switch len(a) {
	case 4:
		for i := range 4 {
			n = append(n, a[i])
		}
		return fmt.Sprintf("%d.%d.%d.%d", n...), true
	case 16:
		for i := 0; i < 16; i += 2 {
			n = append(n, 256*int(a[i])+int(a[i+1]))
		}
		return fmt.Sprintf("%x:%x:%x:%x:%x:%x:%x:%x", n...), true
	}
	return "", false
}

var (
	dotted  = regexp.MustCompile(`^(0|[1-9][0-9]{0,2})\.(0|[1-9][0-9]{0,2})\.(0|[1-9][0-9]{0,2})\.(0|[1-9][0-9]{0,2})$`)
	coloned = regexp.MustCompile(`^(0|[1-9a-f][0-9a-f]{0,3})` + strings.Repeat(`:(0|[1-9a-f][0-9a-f]{0,3})`, 7) + `$`)
)

// understood is the address whose text s is, told by patterns.
func understood(s string) (string, bool) {
	var b []byte
	if m := dotted.FindStringSubmatch(s); m != nil {
		for _, part := range m[1:] {
			n, _ := strconv.Atoi(part)
			if n > 255 {
				return "", false
			}
			b = append(b, byte(n))
		}
		return string(b), true
	}
	if m := coloned.FindStringSubmatch(s); m != nil {
		for _, part := range m[1:] {
			n, _ := strconv.ParseInt(part, 16, 64)
			b = append(b, byte(n/256), byte(n%256))
		}
		return string(b), true
	}
	return "", false
}

// flipped is s with its i-th bit turned round.
func flipped(s string, i int) string {
	b := []byte(s)
	b[i/8] ^= 128 >> (i % 8)
	return string(b)
}

// call is a call that answers a text, and whether there is one.
type call struct {
	name string
	do   func(string) (string, bool)
}

var (
	shorten  = call{"Short", Short}
	lengthen = call{"Long", Long}
	wrap     = call{"Map", Map}
	unwrap   = call{"Unmap", Unmap}
	write    = call{"Text", Text}
	read     = call{"Read", Read}
)

// check holds what the call answers against what it should.
func check(t *testing.T, c call, s, want string) {
	t.Helper()
	if got, ok := c.do(s); got != want || !ok {
		t.Errorf("%s(%q) = %q, %t; want %q", c.name, s, got, ok, want)
	}
}

// checkNone holds the call to say that there is nothing.
func checkNone(t *testing.T, c call, s string) {
	t.Helper()
	if got, ok := c.do(s); got != "" || ok {
		t.Errorf("%s(%.60q) = %.60q, %t; want nothing", c.name, s, got, ok)
	}
}

// checkFamily holds what Family answers against what it should.
func checkFamily(t *testing.T, a string, want int) {
	t.Helper()
	if got := Family(a); got != want {
		t.Errorf("Family(%.60q) = %d; want %d", a, got, want)
	}
}

// checkLink holds what Link answers against what it should.
func checkLink(t *testing.T, a string, want bool) {
	t.Helper()
	if got := Link(a); got != want {
		t.Errorf("Link(%.60q) = %t; want %t", a, got, want)
	}
}

// checkRead holds what Read answers against what the patterns tell.
func checkRead(t *testing.T, s string) {
	t.Helper()
	want, is := understood(s)
	if got, ok := Read(s); got != want || ok != is {
		t.Errorf("Read(%.60q) = %q, %t; want %q, %t", s, got, ok, want, is)
	}
}

func TestP6_1Family(t *testing.T) {
	checkFamily(t, four, 0)
	checkFamily(t, local, 1)
	checkFamily(t, mapped, 1)
	checkFamily(t, global, 1)
	checkFamily(t, "", -1)
	checkFamily(t, "x", -1)
	checkFamily(t, "10.1.2.3", -1)
	checkFamily(t, "fe80:0:0:0:0:0:0:1", -1)
}

// How many bytes there are is all that counts.
func TestP6_1FamilyOfEachSize(t *testing.T) {
	for n := 0; n <= 600; n++ {
		want := -1
		switch n {
		case 4:
			want = 0
		case 16:
			want = 1
		}
		for _, fill := range fills {
			checkFamily(t, strings.Repeat(fill, n), want)
		}
	}
	for _, n := range []int{1 << 16, 1<<16 + 4, 1<<16 + 16, 1 << 20, 1<<20 + 4, 1<<20 + 16} {
		checkFamily(t, strings.Repeat("\x00", n), -1)
	}
}

// An address of IPv6 stays one, a mapped one too; bytes are not characters.
func TestP6_1FamilyCountsBytes(t *testing.T) {
	checkFamily(t, "äö", 0)
	checkFamily(t, "äöüß", -1)
	checkFamily(t, "äöüßäöüß", 1)
	checkFamily(t, "ä1.2.3.4ä5.6.7", 1)
}

func TestP6_1Link(t *testing.T) {
	checkLink(t, local, true)
	checkLink(t, "\xfe\x80\x00\x00\x00\x00\x00\x00\x00\x00\x00\x00\x00\x00\x00\x00", true)
	checkLink(t, "\xfe\x80\x00\x00\x00\x00\x00\x00\xff\xff\xff\xff\xff\xff\xff\xff", true)
	checkLink(t, mapped, false)
	checkLink(t, global, false)
	checkLink(t, four, false)
	checkLink(t, "", false)
	checkLink(t, "\xfe\x80\x00\x00", false)
	checkLink(t, strings.Repeat("\x00", 16), false)
	checkLink(t, "\x00\x00\x00\x00\x00\x00\x00\x00\xfe\x80\x00\x00\x00\x00\x00\x00", false)
	checkLink(t, "\x80\xfe\x00\x00\x00\x00\x00\x00\x00\x00\x00\x00\x00\x00\x00\x01", false)
	checkLink(t, "fe80:0:0:0:0:0:0:1", false)
	checkLink(t, "fe80:0:0:0:0:0:0", false)
}

// Each bit of the first eight bytes makes it another address; none behind
// them does.
func TestP6_1LinkOfOneOtherBit(t *testing.T) {
	for i := range 128 {
		s := flipped(local, i)
		checkLink(t, s, i >= 64)
		if i < 64 {
			checkNone(t, shorten, s)
		} else {
			check(t, shorten, s, s[8:])
		}
	}
}

// Each byte of the first eight, at each other value.
func TestP6_1LinkOfOneOtherByte(t *testing.T) {
	for at := range 16 {
		for value := range 256 {
			b := []byte(local)
			b[at] = byte(value)
			s := string(b)
			want := at >= 8 || s == local
			checkLink(t, s, want)
			if !want {
				checkNone(t, shorten, s)
			}
		}
	}
}

// With its right first bytes, but another size, it is no address.
func TestP6_1LinkOfOtherSizes(t *testing.T) {
	whole := local + strings.Repeat(short, 1<<13)
	for _, n := range sizes {
		if n <= len(whole) && n != 16 {
			checkLink(t, whole[:n], false)
			checkNone(t, shorten, whole[:n])
		}
	}
	checkLink(t, "\x00"+local, false)
	checkLink(t, local+"\x00", false)
	checkLink(t, local+local, false)
	checkLink(t, local[1:], false)
	checkLink(t, local[:15], false)
}

func TestP6_1Short(t *testing.T) {
	check(t, shorten, local, short)
	check(t, shorten, "\xfe\x80\x00\x00\x00\x00\x00\x00\x00\x00\x00\x00\x00\x00\x00\x00", "\x00\x00\x00\x00\x00\x00\x00\x00")
	check(t, shorten, "\xfe\x80\x00\x00\x00\x00\x00\x00\xfe\x80\x00\x00\x00\x00\x00\x00", "\xfe\x80\x00\x00\x00\x00\x00\x00")
	for _, s := range []string{"", "x", four, short, mapped, global, strings.Repeat("\x00", 16), strings.Repeat("\xff", 16), "fe80:0:0:0:0:0:0:1"} {
		checkNone(t, shorten, s)
	}
}

func TestP6_1Long(t *testing.T) {
	check(t, lengthen, short, local)
	check(t, lengthen, "abcdefgh", "\xfe\x80\x00\x00\x00\x00\x00\x00abcdefgh")
	check(t, lengthen, "\x00\x00\x00\x00\x00\x00\x00\x00", "\xfe\x80\x00\x00\x00\x00\x00\x00\x00\x00\x00\x00\x00\x00\x00\x00")
	check(t, lengthen, "\xff\xff\xff\xff\xff\xff\xff\xff", "\xfe\x80\x00\x00\x00\x00\x00\x00\xff\xff\xff\xff\xff\xff\xff\xff")
	check(t, lengthen, "\xfe\x80\x00\x00\x00\x00\x00\x00", "\xfe\x80\x00\x00\x00\x00\x00\x00\xfe\x80\x00\x00\x00\x00\x00\x00")
	for _, n := range sizes {
		for _, fill := range fills {
			s := strings.Repeat(fill, n)
			if n == 8 {
				check(t, lengthen, s, "\xfe\x80\x00\x00\x00\x00\x00\x00"+s)
			} else {
				checkNone(t, lengthen, s)
			}
		}
	}
	// What is long already doesn't become longer.
	checkNone(t, lengthen, local)
}

func TestP6_1Map(t *testing.T) {
	check(t, wrap, four, mapped)
	check(t, wrap, "\x00\x00\x00\x00", "\x00\x00\x00\x00\x00\x00\x00\x00\x00\x00\xff\xff\x00\x00\x00\x00")
	check(t, wrap, "\xff\xff\xff\xff", "\x00\x00\x00\x00\x00\x00\x00\x00\x00\x00\xff\xff\xff\xff\xff\xff")
	for _, n := range sizes {
		for _, fill := range fills {
			s := strings.Repeat(fill, n)
			if n == 4 {
				check(t, wrap, s, "\x00\x00\x00\x00\x00\x00\x00\x00\x00\x00\xff\xff"+s)
			} else {
				checkNone(t, wrap, s)
			}
		}
	}
	// One of IPv6 has no mapped one, not even one that is mapped already.
	checkNone(t, wrap, mapped)
	checkNone(t, wrap, local)
	checkNone(t, wrap, "10.1.2.3")
}

func TestP6_1Unmap(t *testing.T) {
	check(t, unwrap, mapped, four)
	check(t, unwrap, "\x00\x00\x00\x00\x00\x00\x00\x00\x00\x00\xff\xff\x00\x00\x00\x00", "\x00\x00\x00\x00")
	check(t, unwrap, "\x00\x00\x00\x00\x00\x00\x00\x00\x00\x00\xff\xff\xff\xff\xff\xff", "\xff\xff\xff\xff")
	for _, s := range []string{"", "x", four, short, local, global, strings.Repeat("\x00", 16), strings.Repeat("\xff", 16), "0:0:0:0:0:ffff:a01:203"} {
		checkNone(t, unwrap, s)
	}
	// The ones stand behind the noughts, and next to the last four bytes.
	checkNone(t, unwrap, "\xff\xff\x00\x00\x00\x00\x00\x00\x00\x00\x00\x00\x0a\x01\x02\x03")
	checkNone(t, unwrap, "\x00\x00\x00\x00\x00\x00\x00\x00\xff\xff\x00\x00\x0a\x01\x02\x03")
	checkNone(t, unwrap, "\x00\x00\x00\x00\x00\x00\x00\x00\x00\x00\x00\x00\x0a\x01\x02\x03")
	checkNone(t, unwrap, "\x00\x00\x00\x00\x00\x00\x00\x00\x00\xff\xff\xff\x0a\x01\x02\x03")
}

// Each bit of the first twelve bytes makes it another address; none behind
// them does.
func TestP6_1UnmapOfOneOtherBit(t *testing.T) {
	for i := range 128 {
		s := flipped(mapped, i)
		if i < 96 {
			checkNone(t, unwrap, s)
		} else {
			check(t, unwrap, s, s[12:])
		}
	}
}

// Each byte of the first twelve, at each other value.
func TestP6_1UnmapOfOneOtherByte(t *testing.T) {
	for at := range 16 {
		for value := range 256 {
			b := []byte(mapped)
			b[at] = byte(value)
			if s := string(b); at >= 12 || s == mapped {
				check(t, unwrap, s, s[12:])
			} else {
				checkNone(t, unwrap, s)
			}
		}
	}
}

// With its right first bytes, but another size, it is no address.
func TestP6_1UnmapOfOtherSizes(t *testing.T) {
	whole := mapped + strings.Repeat(four, 1<<14)
	for _, n := range sizes {
		if n <= len(whole) && n != 16 {
			checkNone(t, unwrap, whole[:n])
		}
	}
	checkNone(t, unwrap, "\x00"+mapped)
	checkNone(t, unwrap, mapped[1:])
	checkNone(t, unwrap, mapped[:12])
	checkNone(t, unwrap, mapped+mapped)
}

func TestP6_2TextExamples(t *testing.T) {
	check(t, write, "\x0a\x01\x02\x03", "10.1.2.3")
	check(t, write, "\x00\x00\x00\x00", "0.0.0.0")
	check(t, write, "\xff\xff\xff\xff", "255.255.255.255")
	check(t, write, "\x09\x63\x64\xc8", "9.99.100.200")
	check(t, write, "\xfe\x80\x00\x00\x00\x00\x00\x00\x00\x00\x00\x00\x00\x00\x00\x01", "fe80:0:0:0:0:0:0:1")
	check(t, write, global, "2001:db8:0:10:100:a0bc:def:1")
	check(t, write, mapped, "0:0:0:0:0:ffff:a01:203")
	check(t, write, strings.Repeat("\x00", 16), "0:0:0:0:0:0:0:0")
	check(t, write, strings.Repeat("\xff", 16), "ffff:ffff:ffff:ffff:ffff:ffff:ffff:ffff")
}

// Each value of each byte of an address of IPv4.
func TestP6_2TextOfEachByte(t *testing.T) {
	for at := range 4 {
		for value := range 256 {
			b := []byte(four)
			b[at] = byte(value)
			want, _ := spelled(string(b))
			check(t, write, string(b), want)
			check(t, read, want, string(b))
		}
	}
}

// Each value of each number of an address of IPv6.
func TestP6_2TextOfEachNumber(t *testing.T) {
	for at := 0; at < 16; at += 2 {
		for value := range 1 << 16 {
			b := []byte(global)
			b[at], b[at+1] = byte(value>>8), byte(value)
			want, _ := spelled(string(b))
			check(t, write, string(b), want)
			check(t, read, want, string(b))
		}
	}
}

func TestP6_2TextOfOtherSizes(t *testing.T) {
	for _, n := range sizes {
		for _, fill := range fills {
			s := strings.Repeat(fill, n)
			if want, is := spelled(s); is {
				check(t, write, s, want)
			} else {
				checkNone(t, write, s)
			}
		}
	}
	checkNone(t, write, "10.1.2.3")
	checkNone(t, write, "fe80:0:0:0:0:0:0:1")
	checkNone(t, write, local[:15])
	checkNone(t, write, local+"\x00")
}

func TestP6_2ReadExamples(t *testing.T) {
	check(t, read, "10.1.2.3", "\x0a\x01\x02\x03")
	check(t, read, "0.0.0.0", "\x00\x00\x00\x00")
	check(t, read, "255.255.255.255", "\xff\xff\xff\xff")
	check(t, read, "fe80:0:0:0:0:0:0:1", "\xfe\x80\x00\x00\x00\x00\x00\x00\x00\x00\x00\x00\x00\x00\x00\x01")
	check(t, read, "2001:db8:0:10:100:a0bc:def:1", global)
	check(t, read, "0:0:0:0:0:ffff:a01:203", mapped)
	check(t, read, "0:0:0:0:0:0:0:0", strings.Repeat("\x00", 16))
	check(t, read, "ffff:ffff:ffff:ffff:ffff:ffff:ffff:ffff", strings.Repeat("\xff", 16))
	// These are of IPv6 by their colons, whatever their digits.
	check(t, read, "1:2:3:4:5:6:7:8", "\x00\x01\x00\x02\x00\x03\x00\x04\x00\x05\x00\x06\x00\x07\x00\x08")
	check(t, read, "255:256:9999:10:0:0:0:0", "\x02\x55\x02\x56\x99\x99\x00\x10\x00\x00\x00\x00\x00\x00\x00\x00")
}

// parts is a text of count numbers, all of them rest but the at-th, which is
// part.
func parts(sign string, count, at int, rest, part string) string {
	list := strings.Split(strings.Repeat(rest+sign, count-1)+rest, sign)
	list[at] = part
	return strings.Join(list, sign)
}

// What stands in the place of a number of IPv4, at each of its places.
func TestP6_2ReadPartsOfFour(t *testing.T) {
	for at := range 4 {
		for n := range 1300 {
			checkRead(t, parts(".", 4, at, "1", strconv.Itoa(n)))
		}
		for _, part := range []string{
			"", "00", "01", "000", "001", "010", "0255", "00000000000000000001", "256", "257", "300", "999", "1000",
			"65535", "65536", "65537", "4294967296", "4294967297", "18446744073709551616", "18446744073709551617",
			"340282366920938463463374607431768211457", "-0", "-1", "+0", "+1", " 1", "1 ", "\t1", "1\n", "1\x00",
			"\x001", "0x1", "0b1", "0o1", "1_0", "_1", "1e1", "1e0", "a", "f", "ff", "A", "x", "1a", "a1", "1.", "1.1",
			".1", ".", "..", ":", "1:", ":1", "1:1", "\x80", "\xff", "\xb1", "1\xff", "\xff1", "١", "１", "²", "½",
			"1,", "/", "0/", "9:", "1/8", "\"1\"", "*",
		} {
			s := parts(".", 4, at, "1", part)
			checkNone(t, read, s)
			checkRead(t, s)
		}
	}
}

// What stands in the place of a number of IPv6, at each of its places.
func TestP6_2ReadPartsOfSix(t *testing.T) {
	for at := range 8 {
		for _, part := range []string{
			"", "00", "01", "000", "001", "0001", "00001", "0ffff", "000000000000000000001", "0a", "0db8", "10000",
			"10001", "12345", "fffff", "100000000", "100000001", "10000000000000000", "10000000000000001",
			"100000000000000000000000000000001", "-0", "-1", "+0", "+1", " 1", "1 ", "\t1", "1\n", "1\x00", "\x001",
			"0x1", "0b", "1_0", "_1", "A", "F", "FF", "aB", "Ab", "FE80", "fE80", "g", "G", "z", "Z", "x", "1g", "1.",
			".1", ".", "1.1", "1.1.1.1", ":", "1:", ":1", "1:1", "::", "@", "`", "/", "\x80", "\xff", "\xb1", "\xe1",
			"1\xff", "\xff1", "١", "ａ", "á", "1%", "1/64", "[1]", "1p0",
		} {
			s := parts(":", 8, at, "1", part)
			checkNone(t, read, s)
			checkRead(t, s)
		}
	}
}

// Numbers of each size, with and without a nought ahead, at each place.
func TestP6_2ReadNumbersOfSix(t *testing.T) {
	for at := range 8 {
		for n := 0; n <= 1<<20; n += 1 + n/300 {
			text := strconv.FormatInt(int64(n), 16)
			checkRead(t, parts(":", 8, at, "0", text))
			checkRead(t, parts(":", 8, at, "0", "0"+text))
			checkRead(t, parts(":", 8, at, "0", strings.ToUpper(text)))
		}
	}
	for at := range 8 {
		check(t, read, parts(":", 8, at, "0", "ffff"), strings.Repeat("\x00", 2*at)+"\xff\xff"+strings.Repeat("\x00", 14-2*at))
		checkNone(t, read, parts(":", 8, at, "0", "10000"))
	}
}

// Only the right number of numbers makes a text.
func TestP6_2ReadOfOtherCounts(t *testing.T) {
	for _, digit := range []string{"0", "1", "255", "a", ""} {
		for _, sign := range []string{".", ":", ",", " ", "-", "..", "::", ". ", ""} {
			for n := 0; n <= 40; n++ {
				s := strings.Repeat(digit+sign, n)
				checkRead(t, s)
				checkRead(t, s+digit)
				checkRead(t, sign+s)
			}
		}
	}
	check(t, read, "1.1.1.1", "\x01\x01\x01\x01")
	checkNone(t, read, "1.1.1")
	checkNone(t, read, "1.1.1.1.1")
	checkNone(t, read, "1:1:1:1:1:1:1")
	check(t, read, "1:1:1:1:1:1:1:1", strings.Repeat("\x00\x01", 8))
	checkNone(t, read, "1:1:1:1:1:1:1:1:1")
	checkNone(t, read, "1:1:1:1")
	checkNone(t, read, "1.1.1.1.1.1.1.1")
	for _, s := range []string{"", ".", ":", "...", ":::::::", "1", "0", "a", "16909060", "0x01020304", "::", "::1", "1::", "fe80::1", "1::1:1:1:1:1:1"} {
		checkNone(t, read, s)
	}
}

// A sign too many, at either end or within; and both signs in one text.
func TestP6_2ReadOfSigns(t *testing.T) {
	for _, s := range []string{
		".1.2.3.4", "1.2.3.4.", "1..2.3.4", "1.2.3..4", "1.2.3.", ".2.3.4", ":1.2.3.4", "1.2.3.4:", "1.2.3:4",
		"1:2:3:4", "1.2:3.4", ":1:2:3:4:5:6:7:8", "1:2:3:4:5:6:7:8:", "1::2:3:4:5:6:7:8", ":2:3:4:5:6:7:8",
		"1:2:3:4:5:6:7:", "1:2:3:4:5:6:7.8", "1.2.3.4.5.6.7:8", ".1:2:3:4:5:6:7:8", "1:2:3:4:5:6:7:8.",
		"0:0:0:0:0:ffff:10.1.2.3", "::ffff:10.1.2.3", "1:2:3:4:1.2.3.4", "1.2.3.4:5:6:7:8:9:10:11",
		"1:2:3:4:5:6:7:8.1.2.3", "1.2.3.4 ", " 1.2.3.4", "1. 2.3.4", "1.2.3.4\n", "1.2.3.4\x00", "\x001.2.3.4",
		"1.2.3.4/32", "1.2.3.4%0", "[1:2:3:4:5:6:7:8]", "1:2:3:4:5:6:7:8/128", "fe80:0:0:0:0:0:0:1%1",
		" 1:2:3:4:5:6:7:8", "1:2:3:4:5:6:7:8 ", "1:2:3:4:5:6:7:8\n", "1:2:3:4:5:6:7:8\x00", "1,2,3,4", "1.2.3.4,",
		"1;2;3;4", "1。2。3。4", "1.2.3.4\xff", "\xff1.2.3.4", "\ufeff1.2.3.4",
	} {
		checkNone(t, read, s)
		checkRead(t, s)
	}
}

// Each byte put in the place of each, laid between each two, or left out.
func TestP6_2ReadOfOneOtherByte(t *testing.T) {
	for _, s := range []string{
		"0.0.0.0", "10.1.2.3", "255.255.255.255", "25.6.100.99", "192.0.2.1", "0:0:0:0:0:0:0:0",
		"fe80:0:0:0:0:0:0:1", "2001:db8:0:10:100:a0bc:def:1", "ffff:ffff:ffff:ffff:ffff:ffff:ffff:ffff",
		"0:0:0:0:0:ffff:a01:203", "1:2:3:4:5:6:7:8", "10:20:30:40:50:60:70:80",
	} {
		for at := range len(s) {
			checkRead(t, s[:at]+s[at+1:])
			checkRead(t, s[:at])
			checkRead(t, s[at:])
			for value := range 256 {
				checkRead(t, s[:at]+string([]byte{byte(value)})+s[at+1:])
				checkRead(t, s[:at]+string([]byte{byte(value)})+s[at:])
				checkRead(t, s+string([]byte{byte(value)}))
			}
		}
		checkRead(t, s+s)
		checkRead(t, strings.ToUpper(s))
	}
}

// grow holds Read against the patterns at s, and at all texts that go on from
// it by those bytes, up to so many.
func grow(t *testing.T, s, bytes string, most int) {
	checkRead(t, s)
	if len(s) == most {
		return
	}
	for i := range len(bytes) {
		grow(t, s+bytes[i:i+1], bytes, most)
	}
}

// All texts of few kinds of bytes.
func TestP6_2ReadOfEachShortText(t *testing.T) {
	grow(t, "", "052.", 9)
	grow(t, "1.2.", "0129.:a -", 8)
	grow(t, "", "0a:", 9)
	grow(t, "1:2:3:4:5:", "0fF:.", 17)
}

// Texts that are very long are none, and are told in reasonable time.
func TestP6_2ReadOfLongTexts(t *testing.T) {
	for _, fill := range []string{"0", "1", ".", ":", "f", "1.", "1:", "0.0.0.0.", "0:0:0:0:0:0:0:0:", "\xff", "\x00", " "} {
		s := strings.Repeat(fill, 1<<20)
		checkNone(t, read, s)
		checkNone(t, read, "1.2.3.4"+s)
		checkNone(t, read, s+"1.2.3.4")
		checkNone(t, read, "1.2.3."+s)
		checkNone(t, read, s+".2.3.4")
		checkNone(t, read, "1:2:3:4:5:6:7:8"+s)
		checkNone(t, read, "1:2:3:4:5:6:7:"+s)
		checkNone(t, read, s+":2:3:4:5:6:7:8")
	}
}

// Bytes of an address are no text of one.
func TestP6_2ReadOfAddresses(t *testing.T) {
	for _, a := range addresses() {
		checkRead(t, a)
	}
	checkNone(t, read, four)
	checkNone(t, read, local)
	check(t, read, "0:1:2:3:4:5:6:70", "\x00\x00\x00\x01\x00\x02\x00\x03\x00\x04\x00\x05\x00\x06\x00\x70")
}

// Every address that has a text comes back of it.
func TestP6_3AddressComesBack(t *testing.T) {
	for _, a := range addresses() {
		s, is := Text(a)
		want, _ := spelled(a)
		if got, ok := Read(s); !is || s != want || !ok || got != a {
			t.Errorf("%q comes back of %q, %t as %q, %t", a, s, is, got, ok)
		}
	}
}

// Every text that is read is that address's.
func TestP6_3TextComesBack(t *testing.T) {
	count := 0
	var visit func(s string)
	visit = func(s string) {
		if a, ok := Read(s); ok {
			count++
			if got, is := Text(a); !is || got != s {
				t.Errorf("%q comes back of %q as %q, %t", s, a, got, is)
			}
		} else if a != "" {
			t.Errorf("Read(%q) = %q beside a false", s, a)
		}
		if len(s) < 9 {
			for _, c := range "0129." {
				visit(s + string(c))
			}
		}
	}
	visit("1.")
	for _, s := range []string{"0", "00", "1", "01", "a", "0a", "A", "ffff", "0ffff", "FFFF", "10000"} {
		for at := range 8 {
			text := parts(":", 8, at, "10", s)
			if a, ok := Read(text); ok {
				count++
				if got, is := Text(a); !is || got != text {
					t.Errorf("%q comes back of %q as %q, %t", text, a, got, is)
				}
			}
		}
	}
	if count < 100 {
		t.Errorf("only %d texts were read", count)
	}
}

// No two addresses have one text; no two texts are one address's.
func TestP6_3EachItsOwn(t *testing.T) {
	of := map[string]string{}
	for _, a := range addresses() {
		s, _ := Text(a)
		if other, is := of[s]; is && other != a {
			t.Errorf("%q and %q have the text %q", other, a, s)
		}
		of[s] = a
	}
}

// Short forms and mapped addresses come back as well.
func TestP6_3FormsComeBack(t *testing.T) {
	for _, a := range addresses() {
		for _, pair := range [][2]call{{shorten, lengthen}, {lengthen, shorten}, {wrap, unwrap}, {unwrap, wrap}} {
			for _, s := range []string{a, a[:len(a)/2], local[:8] + a[:len(a)/2], mapped[:12] + a} {
				b, is := pair[0].do(s)
				if !is {
					continue
				}
				if got, ok := pair[1].do(b); !ok || got != s {
					t.Errorf("%q comes back of %s, %q, as %q, %t", s, pair[0].name, b, got, ok)
				}
			}
		}
	}
}

// Unmapping is the one way back of mapping: both families keep their own
// texts.
func TestP6_3MappedTexts(t *testing.T) {
	m, _ := Map(four)
	s, _ := Text(m)
	if a, ok := Read(s); !ok || a != m {
		t.Errorf("%q comes back as %q, %t", m, a, ok)
	}
	if Family(m) != 1 || Family(four) != 0 || Link(m) {
		t.Errorf("%q is of family %d, link-local %t", m, Family(m), Link(m))
	}
}
