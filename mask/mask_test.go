package mask

import (
	"math"
	"strings"
	"testing"
)

// masks are all that there are, each at its length.
var masks = [33]string{
	"\x00\x00\x00\x00",
	"\x80\x00\x00\x00", "\xc0\x00\x00\x00", "\xe0\x00\x00\x00", "\xf0\x00\x00\x00",
	"\xf8\x00\x00\x00", "\xfc\x00\x00\x00", "\xfe\x00\x00\x00", "\xff\x00\x00\x00",
	"\xff\x80\x00\x00", "\xff\xc0\x00\x00", "\xff\xe0\x00\x00", "\xff\xf0\x00\x00",
	"\xff\xf8\x00\x00", "\xff\xfc\x00\x00", "\xff\xfe\x00\x00", "\xff\xff\x00\x00",
	"\xff\xff\x80\x00", "\xff\xff\xc0\x00", "\xff\xff\xe0\x00", "\xff\xff\xf0\x00",
	"\xff\xff\xf8\x00", "\xff\xff\xfc\x00", "\xff\xff\xfe\x00", "\xff\xff\xff\x00",
	"\xff\xff\xff\x80", "\xff\xff\xff\xc0", "\xff\xff\xff\xe0", "\xff\xff\xff\xf0",
	"\xff\xff\xff\xf8", "\xff\xff\xff\xfc", "\xff\xff\xff\xfe", "\xff\xff\xff\xff",
}

// below are numbers below 0: the least of all, and those that come out within
// 0 to 32, if they are reckoned with in fewer bits than an int has, or past
// its ends.
var below = []int{
	-1, -2, -7, -8, -9, -24, -31, -32, -33, -40, -64, -128, -240, -255, -256, -256 + 24, -1 << 16,
	-1<<16 + 8, -1 << 31, -1<<31 + 16, -1 << 32, -1<<32 + 24, -1<<32 + 32, -1 << 40, -1 << 60, -1 << 61,
	-1<<61 + 3, math.MinInt + 33, math.MinInt + 32, math.MinInt + 24, math.MinInt + 8, math.MinInt + 1,
	math.MinInt,
}

// beyond are numbers above 32, the greatest of all among them, and those that
// come out within 0 to 32 otherwise.
var beyond = []int{
	33, 34, 39, 40, 41, 47, 48, 63, 64, 65, 96, 127, 128, 129, 255, 256, 256 + 24, 256 + 32, 1 << 16,
	1<<16 + 8, 1<<31 - 1, 1 << 31, 1<<31 + 16, 1<<32 - 1, 1 << 32, 1<<32 + 24, 1<<32 + 32, 1 << 40,
	1 << 60, 1 << 61, 1<<61 + 3, 1 << 62, math.MaxInt - 32, math.MaxInt - 31, math.MaxInt - 1, math.MaxInt,
}

// checkOf holds what Of answers against what it should.
func checkOf(t *testing.T, plen int, want string) {
	t.Helper()
	if got, ok := Of(plen); got != want || !ok {
		t.Errorf("Of(%d) = %q, %t; want %q", plen, got, ok, want)
	}
}

// checkNoMaskOf holds Of to say that no mask has that length.
func checkNoMaskOf(t *testing.T, plen int) {
	t.Helper()
	if got, ok := Of(plen); got != "" || ok {
		t.Errorf("Of(%d) = %q, %t; want nothing", plen, got, ok)
	}
}

// checkPlen holds what Plen answers against what it should.
func checkPlen(t *testing.T, mask string, want int) {
	t.Helper()
	if got, ok := Plen(mask); got != want || !ok {
		t.Errorf("Plen(%q) = %d, %t; want %d", mask, got, ok, want)
	}
}

// checkNoMask holds Plen to say that it is no mask.
func checkNoMask(t *testing.T, s string) {
	t.Helper()
	if got, ok := Plen(s); got != 0 || ok {
		t.Errorf("Plen(%q) = %d, %t; want nothing", s, got, ok)
	}
}

// flipped is s with its i-th bit turned round.
func flipped(s string, i int) string {
	b := []byte(s)
	b[i/8] ^= 128 >> (i % 8)
	return string(b)
}

// spelled is the length of s, told by its bits one by one, and whether it is
// a mask.
func spelled(s string) (int, bool) {
	if len(s) != 4 {
		return 0, false
	}
	var b strings.Builder
	for i := 0; i < 32; i++ {
		b.WriteByte('0' + s[i/8]>>(7-i%8)&1)
	}
	n := strings.Count(b.String(), "1")
	if b.String() != strings.Repeat("1", n)+strings.Repeat("0", 32-n) {
		return 0, false
	}
	return n, true
}

// checkSpelled holds what Plen answers against what the bits tell.
func checkSpelled(t *testing.T, s string) {
	t.Helper()
	want, is := spelled(s)
	if got, ok := Plen(s); got != want || ok != is {
		t.Errorf("Plen(%q) = %d, %t; want %d, %t", s, got, ok, want, is)
	}
}

func TestP5_1OfExamples(t *testing.T) {
	checkOf(t, 23, "\xff\xff\xfe\x00")
	checkOf(t, 24, "\xff\xff\xff\x00")
	checkOf(t, 0, "\x00\x00\x00\x00")
	checkOf(t, 1, "\x80\x00\x00\x00")
	checkOf(t, 31, "\xff\xff\xff\xfe")
	checkOf(t, 32, "\xff\xff\xff\xff")
}

func TestP5_1OfEachLength(t *testing.T) {
	for plen, mask := range masks {
		checkOf(t, plen, mask)
	}
}

func TestP5_1OfBelow(t *testing.T) {
	for plen := -1; plen >= -2000; plen-- {
		checkNoMaskOf(t, plen)
	}
	for _, plen := range below {
		checkNoMaskOf(t, plen)
	}
}

func TestP5_1OfBeyond(t *testing.T) {
	for plen := 33; plen <= 2000; plen++ {
		checkNoMaskOf(t, plen)
	}
	for _, plen := range beyond {
		checkNoMaskOf(t, plen)
	}
}

// A length that is right, and a whole number of bytes, words or whatever may
// be wrapped round, more or less, is none.
func TestP5_1OfWrappedRound(t *testing.T) {
	for plen := range masks {
		if plen > 0 {
			checkNoMaskOf(t, plen+32)
			checkNoMaskOf(t, -plen)
		}
		for shift := 6; shift < 63; shift++ {
			checkNoMaskOf(t, plen+1<<shift)
			checkNoMaskOf(t, plen-1<<shift)
		}
		checkNoMaskOf(t, math.MinInt+plen)
		checkNoMaskOf(t, math.MaxInt-plen)
	}
}

func TestP5_1PlenExamples(t *testing.T) {
	checkPlen(t, "\xff\xff\xfe\x00", 23)
	checkPlen(t, "\xff\xff\xff\x00", 24)
	checkPlen(t, "\xff\xff\x00\x00", 16)
	checkPlen(t, "\x80\x00\x00\x00", 1)
	checkPlen(t, "\xff\xff\xff\xfe", 31)
}

// All bits 0 are a mask like another: its 0 comes with true.
func TestP5_1PlenEnds(t *testing.T) {
	checkPlen(t, "\x00\x00\x00\x00", 0)
	checkPlen(t, "\xff\xff\xff\xff", 32)
}

func TestP5_1PlenEachMask(t *testing.T) {
	for plen, mask := range masks {
		checkPlen(t, mask, plen)
	}
}

// A 1 behind a 0 makes it no mask, inside a byte and across a byte's edge.
func TestP5_1PlenOfGaps(t *testing.T) {
	for _, s := range []string{
		"\xff\x00\xff\x00", "\xff\xff\xfd\x00", "\xff\xff\xfa\x00", "\xa0\x00\x00\x00", "\x55\xaa\x55\xaa",
		"\x40\x00\x00\x00", "\x7f\xff\xff\xff", "\xff\x7f\x00\x00", "\xff\xfe\x80\x00", "\xff\xff\xfe\x80",
		"\xfe\xff\xff\xff", "\xff\xff\xfe\xff", "\xff\xff\x00\xff", "\xff\x00\x00\xff", "\xff\x00\x00\x01",
		"\x00\x00\x00\x01", "\x00\x00\x00\xff", "\x00\x00\x01\x00", "\x00\x80\x00\x00", "\x00\xff\xff\xff",
		"\x01\x00\x00\x00", "\xff\xff\xff\xfd", "\xff\xff\xff\x7f", "\xff\xff\xff\x01", "\xfe\x01\x00\x00",
	} {
		checkNoMask(t, s)
	}
}

// The order of bytes is one alone.
func TestP5_1PlenOfTurnedRound(t *testing.T) {
	for plen, mask := range masks {
		turned := string([]byte{mask[3], mask[2], mask[1], mask[0]})
		if plen == 0 || plen == 32 {
			checkPlen(t, turned, plen)
		} else {
			checkNoMask(t, turned)
		}
	}
}

// One bit of a mask turned round is a mask only next to where its ones end.
func TestP5_1PlenOfOneOtherBit(t *testing.T) {
	for plen, mask := range masks {
		for i := 0; i < 32; i++ {
			switch s := flipped(mask, i); i {
			case plen:
				checkPlen(t, s, plen+1)
			case plen - 1:
				checkPlen(t, s, plen-1)
			default:
				checkNoMask(t, s)
			}
		}
	}
}

// The first 0 and a later 1, at each two places, ahead of all other bits 0 or
// all others 1.
func TestP5_1PlenOfEachGap(t *testing.T) {
	for zero := 0; zero < 32; zero++ {
		for one := zero + 1; one < 32; one++ {
			checkNoMask(t, flipped(masks[zero], one))
			checkNoMask(t, flipped(masks[one+1], zero))
			checkNoMask(t, flipped(masks[32], zero))
		}
	}
}

// Each two bytes, at each two places, between bytes of no bits and of all.
func TestP5_1PlenOfEachTwoBytes(t *testing.T) {
	for _, rest := range []string{masks[0], masks[32], masks[8], masks[16], masks[24]} {
		for at := 0; at < 3; at++ {
			for n := 0; n < 1<<16; n++ {
				b := []byte(rest)
				b[at], b[at+1] = byte(n>>8), byte(n)
				checkSpelled(t, string(b))
			}
		}
	}
}

// Numbers gone through in steps that meet all kinds of bits.
func TestP5_1PlenOfManyNumbers(t *testing.T) {
	m := uint32(1)
	for range 1 << 18 {
		m = m*1664525 + 1013904223
		checkSpelled(t, string([]byte{byte(m >> 24), byte(m >> 16), byte(m >> 8), byte(m)}))
	}
}

// Only 4 bytes are a mask, whatever they would be if some were filled up or
// left out.
func TestP5_1PlenOfOtherNumbersOfBytes(t *testing.T) {
	checkNoMask(t, "")
	checkNoMask(t, "\x00")
	checkNoMask(t, "\xff\xff")
	checkNoMask(t, "\xff\xff\xfe")
	checkNoMask(t, "\xff\xff\xfe\x00\x00")
	checkNoMask(t, "255.255.254.0")
	for _, mask := range masks {
		for n := 0; n < 4; n++ {
			checkNoMask(t, mask[:n])
			checkNoMask(t, mask[4-n:])
		}
		for _, other := range []string{"\x00", "\x01", "\x80", "\xff"} {
			checkNoMask(t, mask+other)
			checkNoMask(t, other+mask)
		}
		for _, other := range masks {
			checkNoMask(t, mask+other)
		}
	}
	for n := 0; n <= 300; n++ {
		if n != 4 {
			checkNoMask(t, strings.Repeat("\x00", n))
			checkNoMask(t, strings.Repeat("\xff", n))
		}
	}
	for _, n := range []int{1 << 16, 1 << 20, 1<<20 + 4} {
		checkNoMask(t, strings.Repeat("\x00", n))
		checkNoMask(t, strings.Repeat("\xff", n))
		checkNoMask(t, masks[23]+strings.Repeat("\x00", n))
	}
}

// Lengths that have a mask come back of it; no others have one.
func TestP5_2LengthComesBack(t *testing.T) {
	for plen := -300; plen <= 300; plen++ {
		mask, is := Of(plen)
		got, ok := Plen(mask)
		if is != (plen >= 0 && plen <= 32) || ok != is || (is && got != plen) || (!is && got != 0) {
			t.Errorf("%d comes back of %q, %t as %d, %t", plen, mask, is, got, ok)
		}
	}
}

// Texts that are a mask come back of its length; no others have one.
func TestP5_2MaskComesBack(t *testing.T) {
	for _, mask := range masks {
		plen, is := Plen(mask)
		if got, ok := Of(plen); got != mask || !is || !ok {
			t.Errorf("%q comes back of %d, %t as %q, %t", mask, plen, is, got, ok)
		}
	}
}

// What is no mask comes back of no length, so that each mask that is told is
// the text itself.
func TestP5_2OthersDoNotComeBack(t *testing.T) {
	for n := 0; n < 1<<16; n++ {
		s := "\xff" + string([]byte{byte(n >> 8), byte(n)}) + "\x00"
		_, is := Plen(s)
		comes := false
		for plen := 0; plen <= 32; plen++ {
			got, _ := Of(plen)
			comes = comes || got == s
		}
		if is != comes {
			t.Errorf("%q is a mask: %t; comes of a length: %t", s, is, comes)
		}
	}
}

// No two lengths have one mask.
func TestP5_2EachLengthItsOwn(t *testing.T) {
	seen := map[string]int{}
	for plen := 0; plen <= 32; plen++ {
		mask, _ := Of(plen)
		if other, is := seen[mask]; is {
			t.Errorf("%d and %d have the mask %q", other, plen, mask)
		}
		seen[mask] = plen
	}
	if len(seen) != 33 {
		t.Errorf("there are %d masks", len(seen))
	}
}
