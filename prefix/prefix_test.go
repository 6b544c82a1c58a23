package prefix

import (
	"fmt"
	"math"
	"strings"
	"testing"
)

const (
	four    = "\x0a\x01\x02\x03"
	sixteen = "\xfe\x80\x00\x00\x00\x00\x00\x00\x12\x34\x56\xff\xfe\x78\x9a\xbc"
)

// ones and zeros are n bytes of the bits that they are named for.
func ones(n int) string  { return strings.Repeat("\xff", n) }
func zeros(n int) string { return strings.Repeat("\x00", n) }

// someAddrs are addresses: all 0, all 1, mixed, and each with a single bit of
// 1, and a single one of 0.
func someAddrs() []string {
	addrs := []string{
		four, "\x0a\x01\x02\x00", "\x80\x00\x00\x00", "\x00\x00\x00\x01", "\x00\x00\x01\x00",
		"\x55\xaa\x55\xaa", "\xe0\x00\x00\x09", sixteen, strings.Repeat("\x96\x69", 8),
		"\x20\x01\x0d\xb8" + zeros(12), zeros(15) + "\x01", "\xff\x02" + zeros(13) + "\x06",
	}
	for _, size := range []int{4, 16} {
		addrs = append(addrs, zeros(size), ones(size))
		for i := 0; i < 8*size; i++ {
			addrs = append(addrs, flipped(zeros(size), i), flipped(ones(size), i))
		}
	}
	return addrs
}

// otherTexts are texts of each number of bytes, up to some, that isn't one of
// an address, and of some more: with no bit of 1, with nothing else, and mixed.
func otherTexts() []string {
	texts := []string{"", strings.Repeat("\xa5", 255), zeros(256), ones(1 << 16)}
	for size := 1; size <= 34; size++ {
		if size != 4 && size != 16 {
			texts = append(texts, zeros(size), ones(size), strings.Repeat("\x96\x69\x01", size)[:size])
		}
	}
	return texts
}

// flipped is s with its i-th bit turned round.
func flipped(s string, i int) string {
	b := []byte(s)
	b[i/8] ^= 128 >> (i % 8)
	return string(b)
}

// below are numbers below 0, the least of all and those that come out within
// an address, if they are reckoned with past the ends of an int.
var below = []int{
	-1, -2, -7, -8, -9, -15, -16, -17, -23, -24, -25, -32, -128, -1 << 31, -1 << 32, -1<<32 + 24,
	-1 << 40, -1 << 60, -1 << 61, -1<<61 + 3, math.MinInt + 24, math.MinInt + 8, math.MinInt + 7,
	math.MinInt + 1, math.MinInt,
}

// beyond are numbers behind the last bit of all texts here, the greatest of
// all among them.
var beyond = []int{
	1 << 20, 1<<31 - 1, 1 << 31, 1 << 32, 1<<32 + 24, 1<<40 - 1, 1 << 40, 1 << 60, 1 << 61, 1<<61 + 3,
	1 << 62, math.MaxInt - 8, math.MaxInt - 7, math.MaxInt - 6, math.MaxInt - 1, math.MaxInt,
}

// eachLength hands over each length that s may have, some next to both ends,
// and lengths far off.
func eachLength(s string, do func(plen int)) {
	for plen := -17; plen <= 8*len(s)+17; plen++ {
		do(plen)
	}
	for _, plen := range below {
		do(plen)
	}
	for _, plen := range beyond {
		do(plen)
	}
}

// spell is the bits of s, a 0 or a 1 for each.
func spell(s string) string {
	var b strings.Builder
	for i := 0; i < len(s); i++ {
		fmt.Fprintf(&b, "%08b", s[i])
	}
	return b.String()
}

// cutBits is the bits that Cut should answer: those ahead of plen, and as many
// of 0 as are lacking up to a byte's edge.
func cutBits(s string, plen int) string {
	all := spell(s)
	kept := all[:max(0, min(plen, len(all)))]
	for len(kept)%8 != 0 {
		kept += "0"
	}
	return kept
}

// checkRight holds what Right answers against what it should.
func checkRight(t *testing.T, addr string, plen int, want bool) {
	t.Helper()
	if got := Right(addr, plen); got != want {
		t.Errorf("Right(%q, %d) = %t", addr, plen, got)
	}
}

// checkLeast holds what Least answers against what it should.
func checkLeast(t *testing.T, plen, want int) {
	t.Helper()
	if got := Least(plen); got != want {
		t.Errorf("Least(%d) = %d; want %d", plen, got, want)
	}
}

// checkCut holds what Cut answers against what it should.
func checkCut(t *testing.T, addr string, plen int, want string) {
	t.Helper()
	if got := Cut(addr, plen); got != want {
		t.Errorf("Cut(%q, %d) = %q; want %q", addr, plen, got, want)
	}
}

// checkFill holds what Fill answers against what it should.
func checkFill(t *testing.T, s string, size int, want string) {
	t.Helper()
	if got := Fill(s, size); got != want {
		t.Errorf("Fill(%q, %d) = %q; want %q", s, size, got, want)
	}
}

// checkLead holds what Lead answers, either way round, against what it should.
func checkLead(t *testing.T, a, b string, want int) {
	t.Helper()
	if got := Lead(a, b); got != want {
		t.Errorf("Lead(%q, %q) = %d; want %d", a, b, got, want)
	}
	if got := Lead(b, a); got != want {
		t.Errorf("Lead(%q, %q) = %d; want %d", b, a, got, want)
	}
}

func TestP4_1RightExamples(t *testing.T) {
	checkRight(t, "\x0a\x01\x02\x00", 24, true)
	checkRight(t, "\x0a\x01\x02\x00", 23, true)
	checkRight(t, "\x0a\x01\x02\x00", 22, false)
	checkRight(t, four, 32, true)
	checkRight(t, four, 31, false)
	checkRight(t, four, 33, false)
	checkRight(t, "\x0a\x01\x02\x02", 31, true)
	checkRight(t, "\x0a\x01\x02\x80", 24, false)
	checkRight(t, "\x0a\x01\x02\x80", 25, true)
	checkRight(t, zeros(4), 0, true)
	checkRight(t, zeros(16), 0, true)
	checkRight(t, "\x80\x00\x00\x00", 0, false)
	checkRight(t, "\x80\x00\x00\x00", 1, true)
	checkRight(t, sixteen, 128, true)
	checkRight(t, sixteen, 127, true)
	checkRight(t, sixteen, 126, true)
	checkRight(t, sixteen, 125, false)
	checkRight(t, sixteen, 129, false)
	checkRight(t, sixteen, 32, false)
	checkRight(t, "\x20\x01\x0d\xb8"+zeros(12), 33, true)
}

// A length is one of the address's own bits: an IPv4 address has none of those
// behind the 32nd, also if all its bits are 0.
func TestP4_1RightEnds(t *testing.T) {
	for _, size := range []int{4, 16} {
		for _, addr := range []string{zeros(size), ones(size), strings.Repeat("\x96\x69", 8)[:size]} {
			checkRight(t, addr, 8*size, true)
			checkRight(t, addr, 8*size+1, false)
			checkRight(t, addr, 8*size+8, false)
			checkRight(t, addr, 4*8*size, false)
			for _, plen := range below {
				checkRight(t, addr, plen, false)
			}
			for _, plen := range beyond {
				checkRight(t, addr, plen, false)
			}
		}
	}
}

func TestP4_1RightEachLength(t *testing.T) {
	for _, addr := range someAddrs() {
		eachLength(addr, func(plen int) {
			within := plen >= 0 && plen <= 8*len(addr)
			checkRight(t, addr, plen, within && !strings.Contains(spell(addr)[plen:], "1"))
		})
	}
}

// What isn't 4 or 16 bytes is no address, and so never a prefix.
func TestP4_1RightOfNoAddress(t *testing.T) {
	for _, s := range otherTexts() {
		for plen := -9; plen <= min(8*len(s)+9, 300); plen++ {
			checkRight(t, s, plen, false)
		}
		for _, plen := range append([]int{8*len(s) - 1, 8 * len(s), 8*len(s) + 1}, below...) {
			checkRight(t, s, plen, false)
		}
	}
}

func TestP4_1LeastExamples(t *testing.T) {
	checkLeast(t, 0, 0)
	checkLeast(t, 1, 1)
	checkLeast(t, 7, 1)
	checkLeast(t, 8, 1)
	checkLeast(t, 9, 2)
	checkLeast(t, 16, 2)
	checkLeast(t, 17, 3)
	checkLeast(t, 23, 3)
	checkLeast(t, 24, 3)
	checkLeast(t, 25, 4)
	checkLeast(t, 31, 4)
	checkLeast(t, 32, 4)
	checkLeast(t, 33, 5)
	checkLeast(t, 127, 16)
	checkLeast(t, 128, 16)
	checkLeast(t, 129, 17)
}

func TestP4_1LeastBelow(t *testing.T) {
	for _, plen := range below {
		checkLeast(t, plen, 0)
	}
}

func TestP4_1LeastFarOff(t *testing.T) {
	checkLeast(t, 1<<31-1, 1<<28)
	checkLeast(t, 1<<31, 1<<28)
	checkLeast(t, 1<<31+1, 1<<28+1)
	checkLeast(t, 1<<32, 1<<29)
	checkLeast(t, 1<<40-8, 1<<37-1)
	checkLeast(t, 1<<40-7, 1<<37)
	checkLeast(t, 1<<40-1, 1<<37)
	checkLeast(t, 1<<40, 1<<37)
}

// Eight times as many bytes are enough, and one byte less isn't.
func TestP4_1LeastIsEnough(t *testing.T) {
	for plen := 0; plen <= 2000; plen++ {
		if n := Least(plen); 8*n < plen || 8*(n-1) >= plen {
			t.Errorf("Least(%d) = %d", plen, n)
		}
	}
}

func TestP4_1CutExamples(t *testing.T) {
	checkCut(t, "\x0a\x01\x03\x04", 23, "\x0a\x01\x02")
	checkCut(t, four, 24, "\x0a\x01\x02")
	checkCut(t, four, 25, "\x0a\x01\x02\x00")
	checkCut(t, "\x0a\x01\x02\x83", 25, "\x0a\x01\x02\x80")
	checkCut(t, four, 22, "\x0a\x01\x00")
	checkCut(t, four, 16, "\x0a\x01")
	checkCut(t, four, 17, "\x0a\x01\x00")
	checkCut(t, four, 8, "\x0a")
	checkCut(t, four, 7, "\x0a")
	checkCut(t, four, 6, "\x08")
	checkCut(t, four, 1, "\x00")
	checkCut(t, four, 0, "")
	checkCut(t, four, -1, "")
	checkCut(t, four, 31, "\x0a\x01\x02\x02")
	checkCut(t, four, 32, four)
	checkCut(t, four, 33, four)
	checkCut(t, sixteen, 10, "\xfe\x80")
	checkCut(t, sixteen, 9, "\xfe\x80")
	checkCut(t, sixteen, 8, "\xfe")
	checkCut(t, sixteen, 127, sixteen)
	checkCut(t, sixteen, 125, sixteen[:15]+"\xb8")
	checkCut(t, sixteen, 128, sixteen)
	checkCut(t, sixteen, 129, sixteen)
}

// Bytes that aren't there aren't made up, and those that are stay as they are.
func TestP4_1CutOfTooFew(t *testing.T) {
	checkCut(t, "a", 99, "a")
	checkCut(t, "abc", 32, "abc")
	checkCut(t, "abc", 25, "abc")
	checkCut(t, "abc", 24, "abc")
	checkCut(t, "ab\xff", 23, "ab\xfe")
	for _, s := range append(otherTexts(), someAddrs()...) {
		for _, plen := range append([]int{8 * len(s), 8*len(s) + 1, 8*len(s) + 8}, beyond...) {
			if plen >= 8*len(s) {
				checkCut(t, s, plen, s)
			}
		}
	}
}

func TestP4_1CutOfNothing(t *testing.T) {
	eachLength("", func(plen int) {
		checkCut(t, "", plen, "")
	})
	for _, s := range append(otherTexts(), someAddrs()...) {
		for _, plen := range append([]int{0}, below...) {
			checkCut(t, s, plen, "")
		}
	}
}

func TestP4_1CutEachLength(t *testing.T) {
	for _, s := range append(otherTexts(), someAddrs()...) {
		if len(s) > 300 {
			continue
		}
		eachLength(s, func(plen int) {
			if got := Cut(s, plen); spell(got) != cutBits(s, plen) {
				t.Errorf("Cut(%q, %d) = %q; want bits %s", s, plen, got, cutBits(s, plen))
			}
		})
	}
}

func TestP4_1FillExamples(t *testing.T) {
	checkFill(t, "\x0a", 4, "\x0a\x00\x00\x00")
	checkFill(t, "\x0a\x01\x02", 4, "\x0a\x01\x02\x00")
	checkFill(t, "", 4, zeros(4))
	checkFill(t, "", 1, "\x00")
	checkFill(t, "", 0, "")
	checkFill(t, "", -1, "")
	checkFill(t, "abc", 4, "abc\x00")
	checkFill(t, "abc", 3, "abc")
	checkFill(t, "abc", 2, "abc")
	checkFill(t, "abc", 0, "abc")
	checkFill(t, "abc", -1, "abc")
	checkFill(t, "\xfe\x80", 16, "\xfe\x80"+zeros(14))
	checkFill(t, sixteen, 4, sixteen)
}

func TestP4_1FillBelow(t *testing.T) {
	for _, s := range append(otherTexts(), someAddrs()...) {
		for _, size := range below {
			checkFill(t, s, size, s)
		}
	}
}

func TestP4_1FillEachSize(t *testing.T) {
	for _, s := range append(otherTexts(), someAddrs()...) {
		for d := -3; d <= 20; d++ {
			checkFill(t, s, len(s)+d, s+zeros(max(0, d)))
		}
		checkFill(t, s, 0, s)
	}
}

func TestP4_1FillLong(t *testing.T) {
	const most = 1 << 20
	for _, s := range []string{"", "\xff", "abc", ones(most - 1), ones(most), ones(most + 1), ones(2 * most)} {
		for _, size := range []int{most - 1, most} {
			want := s + zeros(max(0, size-len(s)))
			if got := Fill(s, size); got != want {
				t.Errorf("Fill of %d bytes to %d has %d, or others", len(s), size, len(got))
			}
		}
	}
}

func TestP4_1LeadExamples(t *testing.T) {
	checkLead(t, "abc", "abd", 2)
	checkLead(t, "abc", "abc", 3)
	checkLead(t, "abc", "xbc", 0)
	checkLead(t, "abc", "axc", 1)
	checkLead(t, four, "\x0a\x01\x03\x03", 2)
	checkLead(t, four, "\x0a\x81\x02\x03", 1)
	checkLead(t, four, "\x0b\x01\x02\x03", 0)
	checkLead(t, four, "\x0a\x01\x02\x02", 3)
	checkLead(t, sixteen, sixteen, 16)
	checkLead(t, zeros(16), zeros(16), 16)
	checkLead(t, sixteen, zeros(16), 0)
}

// Only the shorter one counts: bytes behind its end are like none, not even
// like those that are 0.
func TestP4_1LeadOfDifferentLengths(t *testing.T) {
	checkLead(t, "", "", 0)
	checkLead(t, "", "a", 0)
	checkLead(t, "", zeros(4), 0)
	checkLead(t, "ab", "abd", 2)
	checkLead(t, "a", "abd", 1)
	checkLead(t, "ax", "abd", 1)
	checkLead(t, "\x0a", "\x0a\x00\x00\x00", 1)
	checkLead(t, zeros(4), zeros(16), 4)
	checkLead(t, four, four+sixteen, 4)
	checkLead(t, "abc", strings.Repeat("abc", 100), 3)
	checkLead(t, ones(1<<16), ones(1<<16+1), 1<<16)
	checkLead(t, ones(1<<16), ones(1<<16-1)+"\xfe", 1<<16-1)
}

// A single bit that is another makes its byte another, wherever it stands.
func TestP4_1LeadSeesEachBit(t *testing.T) {
	for _, s := range []string{four, sixteen, "\x00", "\xff\xff", "abc"} {
		for i := 0; i < 8*len(s); i++ {
			checkLead(t, s, flipped(s, i), i/8)
			checkLead(t, s+"z", flipped(s, i)+"z", i/8)
			checkLead(t, s, flipped(s, i)+"z", i/8)
		}
	}
}

func TestP4_1LeadEachPair(t *testing.T) {
	texts := append(otherTexts(), someAddrs()...)
	for i, a := range texts {
		for _, b := range texts[:i+1] {
			want := 0
			for want < min(len(a), len(b)) && a[want] == b[want] {
				want++
			}
			checkLead(t, a, b, want)
		}
	}
}

// eachPrefix hands over prefixes of all lengths, each with an address that has
// it, made without the calls that are tested.
func eachPrefix(do func(pre, addr string, plen int)) {
	for _, addr := range someAddrs() {
		pre := []byte(addr)
		for plen := 8 * len(addr); plen >= 0; plen-- {
			if plen < 8*len(addr) {
				pre[plen/8] &^= 128 >> (plen % 8)
			}
			do(string(pre), addr, plen)
		}
	}
}

func TestP4_2PrefixComesBack(t *testing.T) {
	eachPrefix(func(pre, addr string, plen int) {
		checkRight(t, pre, plen, true)
		checkFill(t, Cut(pre, plen), len(pre), pre)
	})
}

// What is cut of any address that has the prefix is the prefix, too.
func TestP4_2AddressComesBackAsPrefix(t *testing.T) {
	eachPrefix(func(pre, addr string, plen int) {
		checkCut(t, addr, plen, Cut(pre, plen))
		checkFill(t, Cut(addr, plen), len(addr), pre)
	})
}

// Cut and filled comes back of prefixes alone.
func TestP4_2OthersDoNotComeBack(t *testing.T) {
	for _, addr := range someAddrs() {
		for plen := 0; plen <= 8*len(addr); plen++ {
			back := Fill(Cut(addr, plen), len(addr))
			if (back == addr) != Right(addr, plen) {
				t.Errorf("%q of the length %d comes back as %q", addr, plen, back)
			}
			checkRight(t, back, plen, true)
		}
	}
}

// One byte less, or more than one, gives another prefix, if those that are
// left out aren't all 0.
func TestP4_2NoFewerBytes(t *testing.T) {
	eachPrefix(func(pre, addr string, plen int) {
		cut := Cut(pre, plen)
		if len(cut) != Least(plen) {
			t.Errorf("Cut(%q, %d) has %d bytes, not %d", pre, plen, len(cut), Least(plen))
		}
		for n := 0; n < len(cut); n++ {
			same := Fill(cut[:n], len(pre)) == pre
			if same != (cut[n:] == zeros(len(cut)-n)) {
				t.Errorf("%d bytes of %q, filled, are the same: %t", n, cut, same)
			}
		}
	})
}

// A prefix whose last bit is 1 leans on each of its Least bytes.
func TestP4_2LastBitNeedsAll(t *testing.T) {
	for _, size := range []int{4, 16} {
		for plen := 1; plen <= 8*size; plen++ {
			pre := flipped(zeros(size), plen-1)
			cut := Cut(pre, plen)
			checkFill(t, cut, size, pre)
			checkFill(t, cut[:len(cut)-1], size, zeros(size))
		}
	}
}

// Behind the first bytes of the one the rest of the other makes the other
// again; one byte more of the one, and it doesn't.
func TestP4_2LeadOfTwo(t *testing.T) {
	for _, a := range someAddrs() {
		for _, b := range []string{four, zeros(4), ones(4), sixteen, zeros(16), ones(16)} {
			n := Lead(a, b)
			if a[:n]+b[n:] != b || (n < min(len(a), len(b)) && a[:n+1]+b[n+1:] == b) {
				t.Errorf("Lead(%q, %q) = %d", a, b, n)
			}
		}
	}
}
