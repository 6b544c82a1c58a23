package pack

import (
	"fmt"
	"math"
	"slices"
	"testing"

	"roadbook/api"
	"roadbook/msg"
	"roadbook/suite"
)

// protocols are those that there are, strangers numbers that are none, though
// some have the last bytes of one; sizes are few and many bytes, and none.
var (
	protocols = []int{1, 2, 3, 4}
	strangers = []int{-1, 0, 5, 6, 7, 255, 256, 1<<8 + 1, 1<<16 + 2, 1<<32 + 3, 1<<32 + 4, -2, -4, -256 + 4, math.MaxInt, math.MinInt, math.MinInt + 1}
	sizes     = []int{math.MinInt, -65536, -1, 0, 1, 2, 4, 23, 24, 44, 500, 1472, 65534, 65535, 65536, 1 << 31, 1 << 32, math.MaxInt}
)

// sketch is v in short.
func sketch(v any) string { return fmt.Sprintf("%.500s", fmt.Sprintf("%#v", v)) }

// answer is what Pack tells.
type answer struct {
	d   []string
	at  int
	err api.Errno
}

func (a answer) same(b answer) bool {
	return slices.Equal(a.d, b.d) && a.at == b.at && a.err == b.err
}

func (a answer) String() string {
	return fmt.Sprintf("%d datagrams, %.300q, at %d, error %d", len(a.d), a.d, a.at, a.err)
}

// packed is what the chapter's words say, one by one, of layer 26 alone.
func packed(p int, l []api.Msg, most int) answer {
	if !slices.Contains(protocols, p) {
		return answer{err: api.ErrArg}
	}
	for i, m := range l {
		if !suite.Right(p, m) {
			return answer{at: i, err: api.ErrArg}
		}
	}
	for i, m := range l {
		if _, ok := encoded(p, []api.Msg{m}, most); !ok {
			return answer{at: i, err: api.ErrSmall}
		}
	}
	var a answer
	for i := 0; i < len(l); {
		last, n := "", 0
		for i+n < len(l) {
			b, ok := encoded(p, l[i:i+n+1], most)
			if !ok {
				break
			}
			last = b
			n++
		}
		a.d = append(a.d, last)
		i += n
	}
	return a
}

// encoded is what layer 26 writes, and whether this is a datagram of at most so
// many bytes.
func encoded(p int, l []api.Msg, most int) (string, bool) {
	b, _, err := suite.Encode(p, l)
	return b, err == api.OK && len(b) <= most
}

// checkFits holds Fits to answer that, and layer 26 as well.
func checkFits(t *testing.T, p int, l []api.Msg, most int, want bool) {
	t.Helper()
	_, ok := encoded(p, l, most)
	if got := Fits(p, l, most); got != want || ok != want {
		t.Errorf("Fits(%d, %d messages, %s, %d) = %t, layer 26 answers %t; want %t", p, len(l), sketch(l), most, got, ok, want)
	}
}

// checkPack holds Pack to answer these datagrams.
func checkPack(t *testing.T, p int, l []api.Msg, most int, want ...string) {
	t.Helper()
	checkAnswer(t, p, l, most, answer{d: want})
	checkAll(t, p, l, most)
}

// checkError holds Pack to answer that error, at that place, and no datagrams.
func checkError(t *testing.T, p int, l []api.Msg, most, at int, err api.Errno) {
	t.Helper()
	checkAnswer(t, p, l, most, answer{at: at, err: err})
	checkAll(t, p, l, most)
}

func checkAnswer(t *testing.T, p int, l []api.Msg, most int, want answer) {
	t.Helper()
	var got answer
	got.d, got.at, got.err = Pack(p, l, most)
	if !got.same(want) {
		t.Errorf("Pack(%d, %d messages, %s, %d) = %s; want %s", p, len(l), sketch(l), most, got, want)
	}
}

// checkModel holds Pack to answer what the words say, one by one; that takes
// long for many messages.
func checkModel(t *testing.T, p int, l []api.Msg, most int) api.Errno {
	t.Helper()
	want := packed(p, l, most)
	checkAnswer(t, p, l, most, want)
	checkAll(t, p, l, most)
	return want.err
}

// checkAll holds what Pack answers, whatever it is asked for: beside an error
// there is its place alone, which is one of l; else the datagrams are what they
// have to be.
func checkAll(t *testing.T, p int, l []api.Msg, most int) {
	t.Helper()
	d, at, err := Pack(p, l, most)
	switch err {
	case api.OK:
		if at != 0 {
			t.Errorf("Pack(%d, %s, %d) has no error, but the place %d", p, sketch(l), most, at)
		}
		checkDatagrams(t, p, l, most, d)
	case api.ErrArg, api.ErrSmall:
		if len(d) != 0 || at < 0 || at >= max(len(l), 1) {
			t.Errorf("Pack(%d, %s, %d) has the error %d, at %d, beside %.200q", p, sketch(l), most, err, at, d)
		}
	default:
		t.Errorf("Pack(%d, %s, %d) has the error %d", p, sketch(l), most, err)
	}
}

// checkDatagrams holds these, which are of l, to have at most so many bytes, to
// be read by themselves, and to be l together; the first message of each doesn't
// fit behind those of the one ahead.
func checkDatagrams(t *testing.T, p int, l []api.Msg, most int, d []string) {
	t.Helper()
	rest := l
	var ahead []api.Msg
	for i, b := range d {
		back, at, err := suite.Parse(p, b)
		if len(b) > most || err != api.OK || at != 0 || len(back) == 0 || len(back) > len(rest) || !msg.SameAll(back, rest[:len(back)]) {
			t.Fatalf("of Pack(%d, %s, %d), datagram %d, of %d bytes, %.200q, is read as %s, at %d, error %d; want some of %s",
				p, sketch(l), most, i, len(b), b, sketch(back), at, err, sketch(rest))
		}
		checkFits(t, p, back, most, true)
		if i > 0 {
			checkFits(t, p, append(ahead, back[0]), most, false)
		}
		ahead, rest = back, rest[len(back):]
	}
	if len(rest) > 0 {
		t.Errorf("Pack(%d, %s, %d) leaves out %d messages", p, sketch(l), most, len(rest))
	}
}
