package cursor

import (
	"math"
	"testing"

	"roadbook/api"
)

// long has bytes at both ends of their range, and more of them than a number
// may have.
const long = "\x01\x00\xff\x80\x7f\x02\xfe\x10\x20\x00"

// eachCursor hands over every cursor of texts up to four bytes, and of long,
// that may be and isn't Bad.
func eachCursor(do func(api.Cur)) {
	for _, s := range []string{"", "\x00", "\xff\x01", "\x80\x00\xff", "\x01\x02\x03\x04", long} {
		for end := 0; end <= len(s); end++ {
			for at := 0; at <= end; at++ {
				do(api.Cur{S: s, At: at, End: end})
			}
		}
	}
}

// bad is c, Bad.
func bad(c api.Cur) api.Cur {
	return api.Cur{S: c.S, At: c.At, End: c.End, Bad: true}
}

// ahead is c, n bytes on.
func ahead(c api.Cur, n int) api.Cur {
	return api.Cur{S: c.S, At: c.At + n, End: c.End, Bad: c.Bad}
}

// checkNum holds what Num answers against what it should.
func checkNum(t *testing.T, c api.Cur, size, want int, wantCur api.Cur) {
	t.Helper()
	if got, next := Num(c, size); got != want || next != wantCur {
		t.Errorf("Num(%+v, %d) = %d, %+v; want %d, %+v", c, size, got, next, want, wantCur)
	}
}

// checkText holds what Text answers against what it should.
func checkText(t *testing.T, c api.Cur, n int, want string, wantCur api.Cur) {
	t.Helper()
	if got, next := Text(c, n); got != want || next != wantCur {
		t.Errorf("Text(%+v, %d) = %q, %+v; want %q, %+v", c, n, got, next, want, wantCur)
	}
}

// checkCarve holds what Carve answers against what it should.
func checkCarve(t *testing.T, c api.Cur, n int, want, wantCur api.Cur) {
	t.Helper()
	if got, next := Carve(c, n); got != want || next != wantCur {
		t.Errorf("Carve(%+v, %d) = %+v, %+v; want %+v, %+v", c, n, got, next, want, wantCur)
	}
}

// checkRefused sees that nothing can be taken by Text and Carve of n.
func checkRefused(t *testing.T, c api.Cur, n int) {
	t.Helper()
	checkText(t, c, n, "", bad(c))
	checkCarve(t, c, n, api.Cur{}, bad(c))
}

func TestP1_1New(t *testing.T) {
	for _, s := range []string{"", "\x00", "abc", long} {
		if got := New(s); got != (api.Cur{S: s, At: 0, End: len(s), Bad: false}) {
			t.Errorf("New(%q) = %+v", s, got)
		}
	}
}

func TestP1_1Right(t *testing.T) {
	eachCursor(func(c api.Cur) {
		if !Right(c) || !Right(bad(c)) {
			t.Errorf("%+v may be, Bad or not", c)
		}
	})
	for _, c := range []api.Cur{
		{S: "a", At: 1, End: 0},
		{S: "a", At: -1, End: 0},
		{S: "a", At: -1, End: 1},
		{S: "a", At: -2, End: -1},
		{S: "a", At: 0, End: -1},
		{S: "a", At: 0, End: 2},
		{S: "a", At: 2, End: 2},
		{S: "", At: 0, End: 1},
		{S: "abc", At: 2, End: 1},
		{S: "abc", At: math.MinInt, End: math.MaxInt},
		{S: "abc", At: 0, End: math.MaxInt},
		{S: "abc", At: math.MinInt, End: 3},
		{S: "abc", At: math.MaxInt, End: math.MinInt},
	} {
		if Right(c) || Right(bad(c)) {
			t.Errorf("%+v may not be, Bad or not", c)
		}
	}
}

func TestP1_1Left(t *testing.T) {
	eachCursor(func(c api.Cur) {
		if got := Left(c); got != c.End-c.At {
			t.Errorf("Left(%+v) = %d", c, got)
		}
		if got := Left(bad(c)); got != 0 {
			t.Errorf("Left(%+v) = %d; want 0", bad(c), got)
		}
	})
}

func TestP1_1NumExamples(t *testing.T) {
	c := New("\x01\x02\x03")
	checkNum(t, c, 2, 258, ahead(c, 2))
	checkNum(t, ahead(c, 2), 2, 0, bad(ahead(c, 2)))
	checkNum(t, ahead(c, 2), 1, 3, ahead(c, 3))
	checkNum(t, New("\x00\x00\x00"), 3, 0, ahead(New("\x00\x00\x00"), 3))
	all := New("\xff\xff\xff\xff\xff\xff\xff\xff")
	checkNum(t, all, 1, 255, ahead(all, 1))
	checkNum(t, all, 4, 1<<32-1, ahead(all, 4))
	checkNum(t, all, 7, 1<<56-1, ahead(all, 7))
	low := New("\x80\x00\x00\x00\x00\x00\x01")
	checkNum(t, low, 7, 1<<55+1, ahead(low, 7))
}

func TestP1_1Num(t *testing.T) {
	eachCursor(func(c api.Cur) {
		want := 0
		for size := 1; size <= 7; size++ {
			if c.At+size > c.End {
				checkNum(t, c, size, 0, bad(c))
				continue
			}
			want = want*256 + int(c.S[c.At+size-1])
			checkNum(t, c, size, want, ahead(c, size))
		}
	})
}

func TestP1_1NumWrongSize(t *testing.T) {
	eachCursor(func(c api.Cur) {
		for _, size := range []int{math.MinInt, -7, -1, 0, 8, 9, 256, math.MaxInt} {
			checkNum(t, c, size, 0, bad(c))
		}
	})
}

func TestP1_1Text(t *testing.T) {
	eachCursor(func(c api.Cur) {
		for n := 0; n <= c.End-c.At; n++ {
			checkText(t, c, n, c.S[c.At:c.At+n], ahead(c, n))
		}
	})
}

func TestP1_1Carve(t *testing.T) {
	eachCursor(func(c api.Cur) {
		for n := 0; n <= c.End-c.At; n++ {
			checkCarve(t, c, n, api.Cur{S: c.S, At: c.At, End: c.At + n}, ahead(c, n))
		}
	})
}

func TestP1_1WrongCount(t *testing.T) {
	eachCursor(func(c api.Cur) {
		left := c.End - c.At
		for _, n := range []int{math.MinInt, -2, -1, left + 1, left + 2, math.MaxInt} {
			checkRefused(t, c, n)
		}
	})
}

func TestP1_1BadGivesNothing(t *testing.T) {
	eachCursor(func(c api.Cur) {
		for _, n := range []int{math.MinInt, -1, 0, 1, c.End - c.At, 7, 8, math.MaxInt} {
			checkNum(t, bad(c), n, 0, bad(c))
			checkRefused(t, bad(c), n)
		}
	})
}

func TestP1_2TextsTogether(t *testing.T) {
	eachCursor(func(c api.Cur) {
		for n := 0; n <= c.End-c.At; n++ {
			whole, end := Text(c, n)
			for k := 0; k <= n; k++ {
				first, mid := Text(c, k)
				second, last := Text(mid, n-k)
				if first+second != whole || last != end {
					t.Errorf("%+v: %d then %d bytes aren't %d bytes", c, k, n-k, n)
				}
			}
		}
	})
}

func TestP1_2NumsTogether(t *testing.T) {
	c := New(long)
	for size := 2; size <= 7; size++ {
		whole, end := Num(c, size)
		for k := 1; k < size; k++ {
			high, mid := Num(c, k)
			low, last := Num(mid, size-k)
			if high<<(8*(size-k))+low != whole || last != end {
				t.Errorf("numbers of %d and %d bytes aren't one of %d", k, size-k, size)
			}
		}
	}
}

func TestP1_2CarvesTogether(t *testing.T) {
	eachCursor(func(c api.Cur) {
		for n := 0; n <= c.End-c.At; n++ {
			part, next := Carve(c, n)
			inside, _ := Text(part, n)
			want, wantNext := Text(c, n)
			if inside != want || next != wantNext {
				t.Errorf("Carve(%+v, %d) has %q, %+v; want %q, %+v", c, n, inside, next, want, wantNext)
			}
		}
	})
}

// The bytes behind End are there in S, but not the cursor's.
func TestP1_2NeverLeavesEnd(t *testing.T) {
	part, rest := Carve(New(long), 3)
	checkText(t, part, 3, long[:3], ahead(part, 3))
	checkRefused(t, part, 4)
	checkNum(t, part, 4, 0, bad(part))
	checkRefused(t, ahead(part, 3), 1)
	checkNum(t, ahead(part, 3), 1, 0, bad(ahead(part, 3)))
	checkText(t, rest, 1, long[3:4], ahead(rest, 1))
	inner, _ := Carve(part, 2)
	checkRefused(t, inner, 3)
}

func TestP1_2StaysBad(t *testing.T) {
	_, c := Text(ahead(New(long), 4), len(long))
	for i := 0; i < 3; i++ {
		if c != bad(ahead(New(long), 4)) || !Right(c) || Left(c) != 0 {
			t.Fatalf("after %d more calls: %+v", i, c)
		}
		_, c = Num(c, 1)
		_, c = Text(c, 0)
		_, c = Carve(c, 0)
	}
}

// No cursor that a call answers may be one that may not be, or go back.
func TestP1_2AnswersMayBe(t *testing.T) {
	eachCursor(func(c api.Cur) {
		for _, n := range []int{math.MinInt, -1, 0, 1, 2, 3, 7, 8, 11, math.MaxInt} {
			_, byNum := Num(c, n)
			_, byText := Text(c, n)
			part, byCarve := Carve(c, n)
			for _, d := range []api.Cur{byNum, byText, byCarve} {
				if !Right(d) || d.S != c.S || d.End != c.End || d.At < c.At {
					t.Errorf("%+v and %d led to %+v", c, n, d)
				}
			}
			if !Right(part) || part.Bad || part.End > c.End {
				t.Errorf("Carve(%+v, %d) made %+v", c, n, part)
			}
		}
	})
}

// The chapter asks nothing of cursors that may not be, but no call panics.
func TestWrongCursorsDontPanic(t *testing.T) {
	for _, c := range []api.Cur{
		{S: "a", At: -1, End: 1},
		{S: "a", At: 0, End: 9},
		{S: "a", At: 5, End: 1},
		{S: "a", At: math.MinInt, End: math.MaxInt},
		{S: "a", At: math.MaxInt, End: math.MinInt},
	} {
		Left(c)
		for _, n := range []int{math.MinInt, -1, 0, 1, 2, 7, math.MaxInt} {
			checkNum(t, c, n, 0, bad(c))
			checkRefused(t, c, n)
		}
	}
}
