package octet

import (
	"math"
	"strings"
	"testing"
)

// The sizes of which no number fits.
var wrongSizes = []int{math.MinInt, -256, -8, -7, -2, -1, 0, 8, 9, 16, 56, 64, 256, math.MaxInt}

// The numbers below 0.
var below = []int{-1, -2, -128, -255, -256, -257, -1 << 31, -1 << 55, -1 << 56, math.MinInt + 1, math.MinInt}

// limit is 256 to the power of size.
func limit(size int) int {
	n := 1
	for i := 0; i < size; i++ {
		n *= 256
	}
	return n
}

// someNumbers are numbers that fit size bytes, each greater than the one
// before it: both ends, and what lies around each power of two.
func someNumbers(size int) []int {
	ns := []int{0}
	add := func(n int) {
		if n > ns[len(ns)-1] && n < limit(size) {
			ns = append(ns, n)
		}
	}
	for bit := 0; bit <= 8*size; bit++ {
		for near := -2; near <= 2; near++ {
			add(1<<bit + near)
		}
		add(1<<bit + 1<<bit/3)
	}
	return ns
}

// number is what the bytes of s make, the highest first.
func number(s string) int {
	n := 0
	for _, b := range []byte(s) {
		n = n*256 + int(b)
	}
	return n
}

// checkPut sees that n fits size bytes, and that they are want.
func checkPut(t *testing.T, n, size int, want string) {
	t.Helper()
	if got, ok := Put(n, size); got != want || !ok {
		t.Errorf("Put(%d, %d) = %q, %t; want %q, true", n, size, got, ok, want)
	}
	if !Fits(n, size) {
		t.Errorf("Fits(%d, %d) is false", n, size)
	}
}

// checkUnfit sees that n doesn't fit size bytes.
func checkUnfit(t *testing.T, n, size int) {
	t.Helper()
	if got, ok := Put(n, size); got != "" || ok {
		t.Errorf("Put(%d, %d) = %q, %t; want nothing", n, size, got, ok)
	}
	if Fits(n, size) {
		t.Errorf("Fits(%d, %d) is true", n, size)
	}
}

func TestP2_1PutExamples(t *testing.T) {
	checkPut(t, 258, 2, "\x01\x02")
	checkPut(t, 258, 3, "\x00\x01\x02")
	checkPut(t, 0, 1, "\x00")
	checkPut(t, 1, 1, "\x01")
	checkPut(t, 128, 1, "\x80")
	checkPut(t, 16, 4, "\x00\x00\x00\x10")
	checkPut(t, 0x01020304, 4, "\x01\x02\x03\x04")
	checkPut(t, 0x01020304050607, 7, "\x01\x02\x03\x04\x05\x06\x07")
	checkPut(t, 0xfedcba98765432, 7, "\xfe\xdc\xba\x98\x76\x54\x32")
}

func TestP2_1PutEnds(t *testing.T) {
	for size := 1; size <= 7; size++ {
		checkPut(t, 0, size, strings.Repeat("\x00", size))
		checkPut(t, limit(size)-1, size, strings.Repeat("\xff", size))
		checkUnfit(t, limit(size), size)
		checkUnfit(t, limit(size)+1, size)
	}
}

// A number that fits no size but a greater one stands there with its first
// byte 1.
func TestP2_1PutLimitInOneMore(t *testing.T) {
	for size := 1; size <= 6; size++ {
		checkPut(t, limit(size), size+1, "\x01"+strings.Repeat("\x00", size))
	}
}

func TestP2_1PutTooGreat(t *testing.T) {
	for size := 1; size <= 7; size++ {
		for more := size; more <= 7; more++ {
			checkUnfit(t, limit(more), size)
			checkUnfit(t, limit(more)+5, size)
		}
		checkUnfit(t, math.MaxInt-1, size)
		checkUnfit(t, math.MaxInt, size)
	}
}

func TestP2_1PutBelow(t *testing.T) {
	for size := 1; size <= 7; size++ {
		for _, n := range below {
			checkUnfit(t, n, size)
		}
	}
}

func TestP2_1PutWrongSize(t *testing.T) {
	for _, size := range wrongSizes {
		for _, n := range append([]int{0, 1, 255, 256, 1<<56 - 1, 1 << 56, math.MaxInt}, below...) {
			checkUnfit(t, n, size)
		}
	}
}

func TestP2_1Zeros(t *testing.T) {
	for _, n := range []int{0, 1, 2, 3, 4, 15, 16, 255, 256, 65535, 65536, 1<<20 - 1, 1 << 20} {
		if got := Zeros(n); got != strings.Repeat("\x00", n) {
			t.Errorf("Zeros(%d) has %d bytes, or some that aren't 0", n, len(got))
		}
	}
}

func TestP2_1ZerosOfNone(t *testing.T) {
	for _, n := range append([]int{0}, below...) {
		if got := Zeros(n); got != "" {
			t.Errorf("Zeros(%d) has %d bytes", n, len(got))
		}
	}
}

// The chapter asks for no more than 2^20 bytes, but no call panics.
func TestZerosOfTooMany(t *testing.T) {
	for _, n := range []int{1<<20 + 1, 1 << 40, math.MaxInt} {
		if got := Zeros(n); got != "" {
			t.Errorf("Zeros(%d) has %d bytes", n, len(got))
		}
	}
}

func TestP2_1Zero(t *testing.T) {
	if !Zero("") {
		t.Error("there is a byte other than 0 in none")
	}
	for _, n := range []int{1, 2, 3, 8, 64, 1 << 20} {
		if !Zero(strings.Repeat("\x00", n)) {
			t.Errorf("Zero of %d zeros is false", n)
		}
	}
}

// Each byte counts, wherever it stands, and each of its bits.
func TestP2_1ZeroSeesEachByte(t *testing.T) {
	for n := 1; n <= 20; n++ {
		for at := 0; at < n; at++ {
			for b := 1; b <= 255; b++ {
				s := []byte(strings.Repeat("\x00", n))
				s[at] = byte(b)
				if Zero(string(s)) {
					t.Fatalf("Zero(%q) is true", s)
				}
			}
		}
	}
	for _, s := range []string{"0", "00", " ", "\x00 ", "\xff\xff", "\x01\xff", "\x80\x80"} {
		if Zero(s) {
			t.Errorf("Zero(%q) is true", s)
		}
	}
}

// The bytes give back the number, and no other one.
func TestP2_2BytesAreTheNumbersAlone(t *testing.T) {
	for size := 1; size <= 7; size++ {
		for _, n := range someNumbers(size) {
			s, ok := Put(n, size)
			if !ok || len(s) != size || number(s) != n {
				t.Errorf("Put(%d, %d) = %q, %t", n, size, s, ok)
			}
		}
	}
}

func TestP2_2GreaterNumbersHaveGreaterBytes(t *testing.T) {
	for size := 1; size <= 7; size++ {
		last := ""
		for _, n := range someNumbers(size) {
			s, _ := Put(n, size)
			if s <= last {
				t.Errorf("Put(%d, %d) = %q isn't greater than %q", n, size, s, last)
			}
			last = s
		}
	}
}

// All numbers of one and two bytes, one behind the other.
func TestP2_2EachSmallNumber(t *testing.T) {
	for size := 1; size <= 2; size++ {
		last := ""
		for n := 0; n < limit(size); n++ {
			s, ok := Put(n, size)
			if !ok || number(s) != n || s <= last {
				t.Fatalf("Put(%d, %d) = %q, %t, behind %q", n, size, s, ok, last)
			}
			last = s
		}
	}
}

// Of one number, more bytes are just zeros ahead.
func TestP2_2GreaterSizesHaveZerosAhead(t *testing.T) {
	for size := 1; size <= 7; size++ {
		for _, n := range someNumbers(size) {
			s, _ := Put(n, size)
			for more := size; more <= 7; more++ {
				checkPut(t, n, more, Zeros(more-size)+s)
			}
		}
	}
}
