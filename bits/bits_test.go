package bits

import (
	"fmt"
	"math"
	"strings"
	"testing"
)

// someTexts are texts of none to many bytes: all 0, all 1, and mixed, with a
// first and a last bit of either kind.
func someTexts() []string {
	texts := []string{
		"", "\x00\x00\x00", "\xff\xff", "\xff\xff\xff\xff", "\xff\xf0", "\x0f\xff",
		"\x80\x01", "\x01\x80", "\x55\xaa\x55", "\xaa\x55\xaa", "abc", "\x0a\x01\x02\x00",
		"\x00\x00\x00\x01", "\x80\x00\x00\x00", "\xfe\x80\x00\x00\x00\x00\x00\x00\x12\x34\x56\xff\xfe\x78\x9a\xbc",
		strings.Repeat("\xff", 16), strings.Repeat("\x00", 16), strings.Repeat("\x96\x69", 20),
	}
	for b := 0; b <= 255; b++ {
		texts = append(texts, string([]byte{byte(b)}))
	}
	return texts
}

// below are numbers below 0, the least of all and those among them that come
// out within the bits, if they are reckoned with past the ends of an int.
var below = []int{
	-1, -2, -7, -8, -9, -15, -16, -17, -1 << 31, -1 << 32, -1<<32 + 3, -1 << 60, -1<<60 + 1,
	-1 << 61, -1<<61 + 1, math.MinInt + 9, math.MinInt + 8, math.MinInt + 7, math.MinInt + 1, math.MinInt,
}

// beyond are numbers behind the last bit of all texts here, the greatest of
// all among them.
var beyond = []int{
	1 << 10, 1<<31 - 1, 1 << 31, 1 << 32, 1<<32 + 3, 1 << 60, 1<<60 + 1, 1 << 61, 1<<61 + 1, 1 << 62,
	math.MaxInt - 8, math.MaxInt - 7, math.MaxInt - 1, math.MaxInt,
}

// spell is the bits of s, a 0 or a 1 for each.
func spell(s string) string {
	var b strings.Builder
	for i := 0; i < len(s); i++ {
		fmt.Fprintf(&b, "%08b", s[i])
	}
	return b.String()
}

// eachNumber hands over each bit of s, those next to both its ends, and
// numbers far off.
func eachNumber(s string, do func(n int)) {
	for n := -17; n <= 8*len(s)+17; n++ {
		do(n)
	}
	for _, n := range below {
		do(n)
	}
	for _, n := range beyond {
		do(n)
	}
}

// held is n, or the end of the bits of s that is nearer to it.
func held(s string, n int) int {
	return max(0, min(n, 8*len(s)))
}

// checkBit holds what Bit answers against what it should.
func checkBit(t *testing.T, s string, i int, want bool) {
	t.Helper()
	if got := Bit(s, i); got != want {
		t.Errorf("Bit(%q, %d) = %t", s, i, got)
	}
}

// checkKeep holds what Keep answers against what it should.
func checkKeep(t *testing.T, s string, n int, want string) {
	t.Helper()
	if got := Keep(s, n); got != want {
		t.Errorf("Keep(%q, %d) = %q; want %q", s, n, got, want)
	}
}

// checkClean holds what Clean answers against what it should.
func checkClean(t *testing.T, s string, n int, want bool) {
	t.Helper()
	if got := Clean(s, n); got != want {
		t.Errorf("Clean(%q, %d) = %t", s, n, got)
	}
}

// checkAlike holds what Alike answers, either way round, against what it should.
func checkAlike(t *testing.T, a, b string, want int) {
	t.Helper()
	if got := Alike(a, b); got != want {
		t.Errorf("Alike(%q, %q) = %d; want %d", a, b, got, want)
	}
	if got := Alike(b, a); got != want {
		t.Errorf("Alike(%q, %q) = %d; want %d", b, a, got, want)
	}
}

func TestP3_1BitExamples(t *testing.T) {
	checkBit(t, "\x80", 0, true)
	checkBit(t, "\x80", 7, false)
	checkBit(t, "\x01", 0, false)
	checkBit(t, "\x01", 7, true)
	checkBit(t, "\x7f\x80", 0, false)
	checkBit(t, "\x7f\x80", 7, true)
	checkBit(t, "\x7f\x80", 8, true)
	checkBit(t, "\x7f\x80", 9, false)
	checkBit(t, "\x00\x00\x10\x00", 19, true)
}

func TestP3_1BitOfNone(t *testing.T) {
	for _, s := range []string{"", "\xff", "\xff\xff", strings.Repeat("\xff", 16)} {
		for _, i := range append([]int{8 * len(s), 8*len(s) + 1, 8*len(s) + 7, 8*len(s) + 8}, below...) {
			checkBit(t, s, i, false)
		}
		for _, i := range beyond {
			checkBit(t, s, i, false)
		}
	}
}

func TestP3_1EachBit(t *testing.T) {
	for _, s := range someTexts() {
		spelt := spell(s)
		eachNumber(s, func(i int) {
			checkBit(t, s, i, i >= 0 && i < len(spelt) && spelt[i] == '1')
		})
	}
}

func TestP3_1KeepExamples(t *testing.T) {
	checkKeep(t, "\xff\xff", 12, "\xff\xf0")
	checkKeep(t, "\x0a\x01\x02\x03", 24, "\x0a\x01\x02\x00")
	checkKeep(t, "\x0a\x01\x03\x03", 23, "\x0a\x01\x02\x00")
	checkKeep(t, "\x0a\x01\x02\x83", 25, "\x0a\x01\x02\x80")
	checkKeep(t, "\x0a\x01\x02\x03", 32, "\x0a\x01\x02\x03")
	checkKeep(t, "\x0a\x01\x02\x03", 31, "\x0a\x01\x02\x02")
	checkKeep(t, "\x0a\x01\x02\x03", 33, "\x0a\x01\x02\x03")
	checkKeep(t, "\xff\xff", 1, "\x80\x00")
	checkKeep(t, "\xff\xff", 0, "\x00\x00")
	checkKeep(t, "\xff\xff", -1, "\x00\x00")
	checkKeep(t, "\x55\x55\x55", 11, "\x55\x40\x00")
}

func TestP3_1KeepOfNoneAndAll(t *testing.T) {
	for _, s := range someTexts() {
		for _, n := range append([]int{0}, below...) {
			checkKeep(t, s, n, strings.Repeat("\x00", len(s)))
		}
		for _, n := range append([]int{8 * len(s), 8*len(s) + 1, 8*len(s) + 8}, beyond...) {
			checkKeep(t, s, n, s)
		}
	}
}

func TestP3_1KeepOfEmpty(t *testing.T) {
	eachNumber("", func(n int) {
		checkKeep(t, "", n, "")
	})
}

// Each bit stands as the promise says it: those ahead of n, and the others.
func TestP3_1KeepEachBit(t *testing.T) {
	for _, s := range someTexts() {
		eachNumber(s, func(n int) {
			got := Keep(s, n)
			want := spell(s)[:held(s, n)] + strings.Repeat("0", 8*len(s)-held(s, n))
			if len(got) != len(s) || spell(got) != want {
				t.Errorf("Keep(%q, %d) = %q; want bits %s", s, n, got, want)
			}
		})
	}
}

func TestP3_1CleanExamples(t *testing.T) {
	checkClean(t, "\xf0", 4, true)
	checkClean(t, "\xf0", 3, false)
	checkClean(t, "\xf8", 4, false)
	checkClean(t, "\x0a\x01\x02\x00", 24, true)
	checkClean(t, "\x0a\x01\x02\x00", 23, true)
	checkClean(t, "\x0a\x01\x02\x00", 22, false)
	checkClean(t, "\x0a\x01\x02\x80", 24, false)
	checkClean(t, "\x0a\x01\x02\x80", 25, true)
	checkClean(t, "\x0a\x01\x02\x01", 31, false)
	checkClean(t, "\x0a\x01\x02\x01", 32, true)
	checkClean(t, "\x0a\x01\x02\x01", 33, true)
	checkClean(t, "\x80", 0, false)
	checkClean(t, "\x80", -1, false)
	checkClean(t, "\x00\x00", 0, true)
	checkClean(t, "\x00\x00", -1, true)
	checkClean(t, "", 0, true)
}

func TestP3_1CleanEachBit(t *testing.T) {
	for _, s := range someTexts() {
		eachNumber(s, func(n int) {
			checkClean(t, s, n, !strings.Contains(spell(s)[held(s, n):], "1"))
		})
	}
}

// A single 1 is seen, wherever it stands, by each n that isn't behind it.
func TestP3_1CleanSeesEachBit(t *testing.T) {
	for size := 1; size <= 5; size++ {
		for at := 0; at < 8*size; at++ {
			s := make([]byte, size)
			s[at/8] = 128 >> (at % 8)
			eachNumber(string(s), func(n int) {
				checkClean(t, string(s), n, n > at)
			})
		}
	}
}

func TestP3_1AlikeExamples(t *testing.T) {
	checkAlike(t, "\xff\x00", "\xff\x01", 15)
	checkAlike(t, "\x00", "\x80", 0)
	checkAlike(t, "\x00", "\x01", 7)
	checkAlike(t, "\x0a\x01\x02\x03", "\x0a\x01\x03\x03", 23)
	checkAlike(t, "\x0a\x01\x02\x03", "\x0a\x01\x02\x03", 32)
	checkAlike(t, "\x0a\x01\x02\x03", "\x0a\x01\x02\x83", 24)
	checkAlike(t, "\xff\x7f\xff", "\xff\xff\xff", 8)
	checkAlike(t, "\xff\xff\x00", "\xff\xfe\x00", 15)
}

// Only the shorter one counts: bits behind its end are like none.
func TestP3_1AlikeOfDifferentLengths(t *testing.T) {
	checkAlike(t, "", "", 0)
	checkAlike(t, "", "a", 0)
	checkAlike(t, "", "\x00\x00", 0)
	checkAlike(t, "\xff", "\xff\x01", 8)
	checkAlike(t, "\xff", "\xff\x00", 8)
	checkAlike(t, "\xff\x00", "\xff\x00\x00\x00", 16)
	checkAlike(t, "\xff\x00", "\xff\x02\x00\x00", 14)
	checkAlike(t, "abc", strings.Repeat("abc", 100), 24)
}

func TestP3_1AlikeEachPair(t *testing.T) {
	texts := someTexts()
	for i, a := range texts {
		for _, b := range texts[:i+1] {
			x, y := spell(a), spell(b)
			want := 0
			for want < min(len(x), len(y)) && x[want] == y[want] {
				want++
			}
			checkAlike(t, a, b, want)
		}
	}
}

func TestP3_1Long(t *testing.T) {
	s := strings.Repeat("\xff", 1<<20)
	last := 1<<23 - 1
	kept := Keep(s, last)
	if kept != s[1:]+"\xfe" || !Clean(kept, last) || Clean(s, last) || Alike(s, kept) != last {
		t.Errorf("the last bit of %d isn't seen", last+1)
	}
	if !Bit(s, last) || Bit(kept, last) || !Bit(kept, last-1) || Bit(s, last+1) {
		t.Errorf("bits at %d are others", last)
	}
}

func TestP3_2KeptIsClean(t *testing.T) {
	for _, s := range someTexts() {
		eachNumber(s, func(n int) {
			if kept := Keep(s, n); !Clean(kept, n) {
				t.Errorf("Keep(%q, %d) = %q isn't clean", s, n, kept)
			}
		})
	}
}

func TestP3_2KeptAgainIsTheSame(t *testing.T) {
	for _, s := range someTexts() {
		eachNumber(s, func(n int) {
			kept := Keep(s, n)
			checkKeep(t, kept, n, kept)
		})
	}
}

// Kept by two numbers, one behind the other, is kept by the lesser one.
func TestP3_2KeptByTwo(t *testing.T) {
	for _, s := range []string{"", "\xb7", "\x96\xff\x69", "\xff\xff\xff\xff"} {
		eachNumber(s, func(n int) {
			eachNumber(s, func(m int) {
				checkKeep(t, Keep(s, n), m, Keep(s, min(n, m)))
			})
		})
	}
}

// Clean is just what Keep leaves as it is.
func TestP3_2CleanIsKept(t *testing.T) {
	for _, s := range someTexts() {
		eachNumber(s, func(n int) {
			checkClean(t, s, n, Keep(s, n) == s)
		})
	}
}

// Bits that are alike are kept alike, and one more isn't.
func TestP3_2AlikeIsKeptAlike(t *testing.T) {
	texts := someTexts()
	for _, a := range texts {
		for _, b := range texts {
			if len(a) != len(b) {
				continue
			}
			n := Alike(a, b)
			for k := -1; k <= n; k++ {
				checkKeep(t, a, k, Keep(b, k))
			}
			if n < 8*len(a) && Keep(a, n+1) == Keep(b, n+1) {
				t.Errorf("%q and %q have more than %d bits alike", a, b, n)
			}
		}
	}
}

// Of texts of different lengths, too, the bits that are alike come out alike.
func TestP3_2AlikeIsKeptAlikeUpToTheShorter(t *testing.T) {
	texts := someTexts()
	for _, a := range texts {
		for _, b := range texts {
			size := min(len(a), len(b))
			for _, k := range []int{0, Alike(a, b) - 1, Alike(a, b)} {
				x, y := Keep(a, k), Keep(b, k)
				if x[:size] != y[:size] || Alike(x, y) != 8*size {
					t.Errorf("%q and %q, kept up to %d, are %q and %q", a, b, k, x, y)
				}
			}
		}
	}
}
