package intake

import (
	"math"
	"math/rand"
	"slices"
	"strings"
	"testing"

	"roadbook/api"
)

// paddings are bytes that say nothing, between TLVs, and behind a TLV's fields,
// too.
var paddings = []string{"\x00", "\x00\x00\x00", "\x01\x00", "\x01\x03\x80\x02a", "\x00\x01\x01\xff\x00", "\x01\x04\x06\x02\x00\x00", strings.Repeat("\x00", 20)}

// Padding ahead of each TLV, behind the last one, everywhere, and alone.
func TestP23_2Padding(t *testing.T) {
	for _, padding := range paddings {
		checkMessages(t, wrapped(padding, ""), nil)
		checkMessages(t, wrapped(padding, padding), nil)
		pads, _, _ := split(padding, 4)
		checkAnswer(t, pads, answer{})
		for _, l := range bodies() {
			want := folded(placed(l, 4))
			everywhere := padding
			for i := range len(l) + 1 {
				checkAnswer(t, slices.Concat(l[:i], pads, l[i:]), want)
				checkMessages(t, wrapped(spelled(l[:i])+padding+spelled(l[i:]), ""), want.told)
				if i < len(l) {
					everywhere += spelled(l[i:i+1]) + padding
				}
			}
			checkMessages(t, wrapped(everywhere, ""), want.told)
		}
	}
}

// Padding behind the fields of TLVs, among their sub-TLVs.
func TestP23_2PaddingWithin(t *testing.T) {
	for _, padding := range paddings {
		for _, s := range samples() {
			for _, subs := range []string{"\x02\x01a", "\x02\x01a\x03\x00", "\x02\x01a\x80\x00"} {
				l := []api.Tlv{{Type: s.typ, Data: s.data + subs}}
				want := folded(l)
				for _, padded := range []string{padding + subs, subs[:3] + padding + subs[3:], subs + padding} {
					l[0].Data = s.data + padded
					checkAnswer(t, l, want)
				}
			}
		}
	}
}

// Padding ahead of a TLV with an error moves its place, and changes nothing else.
func TestP23_2PaddingAndErrors(t *testing.T) {
	for _, padding := range paddings {
		for _, v := range wrongs() {
			bad := spelled([]api.Tlv{{Type: v.typ, Data: v.data}})
			checkError(t, wrapped(padding+bad, ""), 4+len(padding), v.err)
			checkError(t, wrapped(bad+padding, ""), 4, v.err)
			checkError(t, wrapped("\x03\x02\x00\x07"+padding+bad+padding, padding), 8+len(padding), v.err)
		}
	}
}

// Trailers change no message: those that are empty, of padding, and of TLVs that
// would tell a message, say something, or have an error, if they stood in the
// body. Nor do they hide a body's error.
func TestP23_2Trailers(t *testing.T) {
	trailers := slices.Concat([]string{"", hopeful, hopeful + "\x2a\x02\x00\x00", wrapped("", "\x00"), "\x63\x01x"}, paddings)
	for _, s := range samples() {
		trailers = append(trailers, spelled([]api.Tlv{{Type: s.typ, Data: s.data}}))
	}
	for _, v := range wrongs() {
		trailers = append(trailers, spelled([]api.Tlv{{Type: v.typ, Data: v.data}}), spelled([]api.Tlv{{Type: v.typ, Data: v.data}, {Type: 3, Data: "\x00\x07"}}))
	}
	for _, trailer := range trailers {
		checkMessages(t, wrapped("", trailer), nil)
		for _, l := range bodies() {
			checkRead(t, wrapped(spelled(l), trailer), answer{told: folded(placed(l, 4)).told})
		}
		checkError(t, wrapped("\x00\x03\x01\x00", trailer), 5, api.ErrShort)
		checkError(t, wrapped("\x08\x0b\x01\x00\x18\x02"+numbers+"\x07", trailer), 4, api.ErrCtx)
	}
}

// checkOneByOne holds each TLV of l to tell what it tells where that is known
// which those ahead of it leave behind them.
func checkOneByOne(t *testing.T, l []api.Tlv) {
	t.Helper()
	var told []api.Msg
	for i, v := range l {
		ahead, _, _, err := Fold(l[:i])
		got, _, at, errThen := Fold(l[:i+1])
		if err != api.OK || !slices.EqualFunc(ahead, told, same) {
			t.Fatalf("Fold of %s = %s, error %d; want %s", sketch(l[:i]), sketch(ahead), err, sketch(told))
		}
		if errThen != api.OK {
			if at != v.At || len(got) > 0 {
				t.Errorf("%s behind %s has the error %d at %d, beside %s", sketch(v), sketch(l[:i]), errThen, at, sketch(got))
			}
			checkAnswer(t, l, answer{at: at, err: errThen})
			return
		}
		if len(got) < len(told) || len(got) > len(told)+1 || !slices.EqualFunc(got[:len(told)], told, same) {
			t.Errorf("%s behind %s makes %s of %s", sketch(v), sketch(l[:i]), sketch(got), sketch(told))
		}
		told = got
	}
}

// TLVs of all types, one behind the other, at random.
func TestP23_2Walks(t *testing.T) {
	r := rand.New(rand.NewSource(1))
	told, errs := 0, map[api.Errno]int{}
	for range 4000 {
		l := placed(someList(r, 24), 4)
		checkFold(t, l)
		checkParse(t, wrapped(spelled(l), ""))
		checkParse(t, wrapped(spelled(l), spelled(someList(r, 4))))
		known, _, _ := split(hopeful, 4)
		l = placed(slices.Concat(known, l), 4)
		checkFold(t, l)
		checkParse(t, wrapped(spelled(l), ""))
		got, _, _, err := Fold(l)
		told += len(got)
		errs[err]++
	}
	if told < 4000 || errs[api.OK] < 500 || errs[api.ErrShort] < 100 {
		t.Errorf("only %d messages, and the errors %v", told, errs)
	}
	for range 300 {
		checkOneByOne(t, placed(someList(r, 24), 4))
	}
	checkOneByOne(t, goods())
}

// Any bytes at all, as datagrams, and as bodies and trailers of such.
func TestP23_2AnyBytes(t *testing.T) {
	r := rand.New(rand.NewSource(2))
	for range 20000 {
		b := []byte(someBytes(r, r.Intn(60)))
		checkParse(t, string(b))
		for i := range b {
			// Small numbers make TLVs that are all there.
			if r.Intn(3) > 0 {
				b[i] %= 11
			}
		}
		checkParse(t, wrapped(string(b), ""))
		checkParse(t, headed(42, 2, r.Intn(60), string(b)))
		if len(b) > 0 {
			n := r.Intn(len(b))
			checkParse(t, wrapped(string(b[:n]), string(b[n:])))
		}
	}
}

// What is handed in stays as it was, its spare room, too.
func TestP23_2ChangesNothing(t *testing.T) {
	lists := bodies()
	for _, v := range wrongs()[:20] {
		lists = append(lists, with(goods(), 5, api.Tlv{Type: v.typ, At: 8, Data: v.data}))
	}
	for _, l := range lists {
		room := slices.Clone(l)
		for i := range 5 {
			room = append(room, api.Tlv{Type: 11, At: i, Data: "spare"})
		}
		before := slices.Clone(room)
		for i := range before {
			before[i].Data = strings.Clone(before[i].Data)
		}
		told, _, _, _ := Fold(room[:len(l)])
		for i := range told {
			told[i] = api.Msg{Kind: -1}
		}
		_ = append(told, api.Msg{Kind: -2})
		if !slices.Equal(room, before) {
			t.Errorf("%s, or its spare room, became %s", sketch(before), sketch(room))
		}
		b := wrapped(spelled(l), "\x00")
		whole := strings.Clone(b)
		Parse(b)
		if b != whole {
			t.Errorf("%.99q became %.99q", whole, b)
		}
	}
}

// What is answered stays as it was, whatever becomes of what was handed in, and
// of other answers; messages share no lists with each other.
func TestP23_2KeepsNothing(t *testing.T) {
	l := []api.Tlv{
		{Type: 3, At: 4, Data: "\x00\x07\x02\x01a\x03\x00"},
		{Type: 3, At: 12, Data: "\x00\x07\x02\x01a\x03\x00"},
		{Type: 9, At: 20, Data: "\x00\x00\x02\x01a\x03\x00"},
		{Type: 8, At: 28, Data: "\x00\x00\x00\x00" + far + "\x02\x01a\x03\x00"},
		{Type: 11, At: 48, Data: "z"},
	}
	want := folded(slices.Clone(l))
	b := wrapped(spelled(l), "")
	one, _, _, _ := Fold(l)
	two, _, _, _ := Fold(l)
	three, _, _ := Parse(b)
	four, _, _ := Parse(b)
	for i := range l {
		l[i] = api.Tlv{Type: -1, At: -1, Data: "gone"}
	}
	for _, got := range [][]api.Msg{one, three} {
		if !slices.EqualFunc(got, want.told, same) {
			t.Fatalf("%s isn't %s", sketch(got), sketch(want.told))
		}
		for i := range got[:4] {
			got[i].Subs[0] = api.Sub{Type: -1}
			got[i].Subs = append(got[i].Subs, api.Sub{Type: -2})
			for j := i + 1; j < len(got); j++ {
				if !same(got[j], want.told[j]) {
					t.Errorf("the messages %d and %d share a list: %s", i, j, sketch(got))
				}
			}
			got[i].Kind = -1
		}
	}
	if !slices.EqualFunc(two, want.told, same) || !slices.EqualFunc(four, want.told, same) {
		t.Errorf("answers share lists: %s, %s", sketch(two), sketch(four))
	}
}

// A call hangs on its arguments alone: not on what was known in one ahead.
func TestP23_2Again(t *testing.T) {
	known, _, _ := split(hopeful, 4)
	update := api.Tlv{Type: 8, At: 4, Data: "\x01\x00\x18\x00" + numbers + "abc"}
	left := api.Tlv{Type: 8, At: 4, Data: "\x01\x00\x18\x02" + numbers + "c"}
	for range 3 {
		checkFold(t, known)
		checkAnswer(t, []api.Tlv{update}, answer{})
		checkAnswer(t, []api.Tlv{left}, answer{at: 4, err: api.ErrCtx})
		checkMessages(t, wrapped(hopeful, ""), nil)
		checkMessages(t, wrapped(spelled([]api.Tlv{update}), ""), nil)
		checkError(t, wrapped(spelled([]api.Tlv{left}), ""), 4, api.ErrCtx)
		checkMessages(t, wrapped(hopeful+spelled([]api.Tlv{left}), ""), []api.Msg{{
			Kind: api.Update, Ae: 1, Prefix: "\xa1\xa2c\x00", Plen: 24, Interval: 1, Seq: 2, Metric: 3, Id: id, Next: "abcd",
		}})
	}
}

// All calls end, whatever they are asked for, also where nothing is promised.
func TestP23_2Ends(t *testing.T) {
	for _, typ := range []int{-1, -2, -6, -256, 256, 257, 258, 256 + 6, 1<<32 + 8, math.MaxInt, math.MinInt} {
		for _, data := range []string{"", "a", "\x01\x00\x18\x00" + numbers + "abc", strings.Repeat("a", 1000)} {
			Fold([]api.Tlv{{Type: typ, At: typ, Data: data}, {Type: 3, Data: data}})
		}
	}
}
