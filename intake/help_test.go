package intake

import (
	"encoding/binary"
	"fmt"
	"math/rand"
	"reflect"
	"slices"
	"strings"
	"testing"

	"roadbook/api"
	"roadbook/ctx"
	"roadbook/field"
	"roadbook/route"
)

// limit is how many bytes a datagram has at most, and room how many its body
// has.
const (
	limit = 65535
	room  = 65531
)

const (
	// head is how a link-local address begins.
	head = "\xfe\x80\x00\x00\x00\x00\x00\x00"
	// id is a router-id.
	id = "ABCDEFGH"
	// numbers are an Update's Interval, Seq and Metric, far those of one that says
	// that there is no way.
	numbers = "\x00\x01\x00\x02\x00\x03"
	far     = "\x00\x01\x00\x02\xff\xff"
)

// answer is what Fold answers.
type answer struct {
	told []api.Msg
	ctx  api.Ctx
	at   int
	err  api.Errno
}

// sample is a TLV's type and all bytes of its fields, no byte of which may be
// missing; the message that it tells where nothing is known, if it tells one;
// what is known behind it, and behind it if a sub-TLV hides what it says.
type sample struct {
	typ    int
	data   string
	told   []api.Msg
	ctx    api.Ctx
	hidden api.Ctx
}

// samples are TLVs of the types 2 to 10, of each encoding.
func samples() []sample {
	return slices.Concat(fieldSamples(), sayingSamples(), updateSamples(), requestSamples())
}

// fieldSamples are those whose fields stand alone.
func fieldSamples() []sample {
	one := func(m api.Msg) []api.Msg { return []api.Msg{m} }
	return []sample{
		{typ: 2, data: "\x00\x00\x01\x02\x03\x04", told: one(api.Msg{Kind: api.AckReq, Nonce: 0x102, Interval: 0x304})},
		{typ: 3, data: "\x01\x02", told: one(api.Msg{Kind: api.Ack, Nonce: 0x102})},
		{typ: 4, data: "\x80\x00\x01\x02\x03\x04", told: one(api.Msg{Kind: api.Hello, Flags: 1, Seq: 0x102, Interval: 0x304})},
		{typ: 4, data: "\x7f\xff\x01\x02\x03\x04", told: one(api.Msg{Kind: api.Hello, Seq: 0x102, Interval: 0x304})},
		{typ: 5, data: "\x00\x00\x01\x02\x03\x04", told: one(api.Msg{Kind: api.Ihu, Cost: 0x102, Interval: 0x304})},
		{typ: 5, data: "\x01\x00\x01\x02\x03\x04abcd", told: one(api.Msg{Kind: api.Ihu, Ae: 1, Cost: 0x102, Interval: 0x304, Addr: "abcd"})},
		{typ: 5, data: "\x02\x00\x01\x02\x03\x04abcdefghijklmnop", told: one(api.Msg{Kind: api.Ihu, Ae: 2, Cost: 0x102, Interval: 0x304, Addr: "abcdefghijklmnop"})},
		{typ: 5, data: "\x03\x00\x01\x02\x03\x04abcdefgh", told: one(api.Msg{Kind: api.Ihu, Ae: 3, Cost: 0x102, Interval: 0x304, Addr: head + "abcdefgh"})},
	}
}

// sayingSamples are those that say something to the ones behind them, and tell
// no message.
func sayingSamples() []sample {
	return []sample{
		{typ: 6, data: "\x00\x00" + id, ctx: api.Ctx{Id: id}},
		{typ: 7, data: "\x01\x00abcd", ctx: api.Ctx{Next: [2]string{"abcd", ""}}},
		{typ: 7, data: "\x02\x00abcdefghijklmnop", ctx: api.Ctx{Next: [2]string{"", "abcdefghijklmnop"}}},
		{typ: 7, data: "\x03\x00abcdefgh", ctx: api.Ctx{Next: [2]string{"", head + "abcdefgh"}}},
	}
}

// updateSamples are Updates: such as no router-id is known for, or none needed,
// and such as say it themselves.
func updateSamples() []sample {
	const (
		four = "\xa1\xa2\xa3\x00"
		link = head + "\xc1\xc2\xc3\x00\x00\x00\x00\x00"
	)
	six := "\xb1\xb2\xb3" + strings.Repeat("\x00", 13)
	told := func(ae int, prefix string, plen, metric int, id string) []api.Msg {
		return []api.Msg{{Kind: api.Update, Ae: ae, Prefix: prefix, Plen: plen, Interval: 1, Seq: 2, Metric: metric, Id: id}}
	}
	known := func(ae int, prefix, id string) api.Ctx {
		c := api.Ctx{Id: id}
		c.Prefix[ae] = prefix
		return c
	}
	fours, sixes, links := known(1, four, ""), known(2, six, ""), known(3, link, "")
	return []sample{
		{8, "\x00\xc0\x00\x00" + far, told(0, "", 0, api.Far, ""), api.Ctx{}, api.Ctx{}},
		{8, "\x00\xc0\x00\x00" + numbers, nil, api.Ctx{}, api.Ctx{}},
		{8, "\x01\x00\x18\x00" + far + "\xa1\xa2\xa3", told(1, four, 24, api.Far, ""), api.Ctx{}, api.Ctx{}},
		{8, "\x01\x80\x18\x00" + far + "\xa1\xa2\xa3", told(1, four, 24, api.Far, ""), fours, fours},
		{8, "\x01\x80\x18\x00" + numbers + "\xa1\xa2\xa3", nil, fours, fours},
		{8, "\x01\x40\x18\x00" + numbers + "\xa1\xa2\xa3", told(1, four, 24, 3, "\x00\x00\x00\x00"+four), api.Ctx{Id: "\x00\x00\x00\x00" + four}, api.Ctx{Id: "\x00\x00\x00\x00" + four}},
		{8, "\x02\x80\x18\x00" + far + "\xb1\xb2\xb3", told(2, six, 24, api.Far, ""), sixes, sixes},
		{8, "\x02\xc0\x18\x00" + numbers + "\xb1\xb2\xb3", told(2, six, 24, 3, six[8:]), known(2, six, six[8:]), known(2, six, six[8:])},
		{8, "\x03\x80\x58\x00" + far + "\xc1\xc2\xc3", told(3, link, 88, api.Far, ""), links, links},
		{8, "\x03\xc0\x58\x00" + numbers + "\xc1\xc2\xc3", told(3, link, 88, 3, link[8:]), known(3, link, link[8:]), known(3, link, link[8:])},
	}
}

// requestSamples are route requests and seqno requests.
func requestSamples() []sample {
	var l []sample
	for _, p := range []struct {
		ae, plen     int
		bytes, whole string
	}{
		{0, 0, "", ""},
		{1, 24, "\xa1\xa2\xa3", "\xa1\xa2\xa3\x00"},
		{2, 24, "\xb1\xb2\xb3", "\xb1\xb2\xb3" + strings.Repeat("\x00", 13)},
		{3, 88, "\xc1\xc2\xc3", head + "\xc1\xc2\xc3\x00\x00\x00\x00\x00"},
	} {
		first := string([]byte{byte(p.ae), byte(p.plen)})
		m := api.Msg{Kind: api.RouteReq, Ae: p.ae, Prefix: p.whole, Plen: p.plen}
		l = append(l, sample{typ: 9, data: first + p.bytes, told: []api.Msg{m}})
		n := sample{typ: 10, data: first + "\x01\x02\x05\x00" + id + p.bytes}
		if p.ae > 0 {
			m.Kind, m.Seq, m.Hops, m.Id = api.SeqnoReq, 0x102, 5, id
			n.told = []api.Msg{m}
		}
		l = append(l, n)
	}
	return l
}

// behind are bytes behind a TLV's fields that have no error, what is kept of
// them, and whether none of them must be known.
var behind = []struct {
	bytes string
	subs  []api.Sub
	known bool
}{
	{"", nil, true},
	{"\x00", nil, true},
	{"\x00\x00\x00", nil, true},
	{"\x01\x00", nil, true},
	{"\x00\x01\x03\x80\x00a\x00", nil, true},
	{"\x02\x00", []api.Sub{{Type: 2}}, true},
	{"\x7f\x01a", []api.Sub{{Type: 127, Data: "a"}}, true},
	{"\x00\x03\x02\x80\x00\x01\x00\x02\x00\x00", []api.Sub{{Type: 3, Data: "\x80\x00"}, {Type: 2}}, true},
	{"\x09\xc6" + strings.Repeat("b", 198), []api.Sub{{Type: 9, Data: strings.Repeat("b", 198)}}, true},
	{"\x80\x00", nil, false},
	{"\xff\x01a", nil, false},
	{"\x02\x00\x81\x00\x03\x00", nil, false},
	{"\x00\x80\x00\x00", nil, false},
}

// wrongBehind are such that have an error.
var wrongBehind = []struct {
	bytes string
	err   api.Errno
}{
	{"\x01", api.ErrShort},
	{"\x02", api.ErrShort},
	{"\x80", api.ErrShort},
	{"\x02\x01", api.ErrShort},
	{"\x80\x00\x02\x05abcd", api.ErrShort},
	{"\x09\xc7" + strings.Repeat("b", 199), api.ErrLong},
	{"\x09\xc6" + strings.Repeat("b", 198) + "\x02\x00", api.ErrLong},
	{"\x80\x00\x09\xc7" + strings.Repeat("b", 199), api.ErrLong},
}

// silent are TLVs that say nothing at all, without an error.
func silent() []api.Tlv {
	return []api.Tlv{
		{Type: 0},
		{Type: 1},
		{Type: 1, Data: "\x00\x00\x00"},
		{Type: 1, Data: "\x01\x05"},
		{Type: 2, Data: "\x00\x00\x01\x02\x03\x04\x80\x00"},
		{Type: 3, Data: "\x01\x02\x80\x00"},
		{Type: 4, Data: "\x80\x00\x01\x02\x03\x04\x80\x00"},
		{Type: 5, Data: "\x04\x00\x01\x02\x03\x04\x02"},
		{Type: 5, Data: "\x01\x00\x01\x02\x03\x04abcd\x80\x00"},
		{Type: 6, Data: "\x00\x00hgfedcba\x80\x00"},
		{Type: 7, Data: "\x00\x00\x02"},
		{Type: 7, Data: "\x04\x00\x02"},
		{Type: 7, Data: "\x01\x00zyxw\x80\x00"},
		{Type: 8, Data: "\x04\xc0\x18\x02" + numbers + "\x02"},
		{Type: 8, Data: "\x00\xc0\x00\x00" + numbers},
		{Type: 8, Data: "\x01\x00\x18\x00" + far + "abc\x80\x00"},
		{Type: 9, Data: "\x04\x18\x02"},
		{Type: 9, Data: "\x01\x18abc\x80\x00"},
		{Type: 10, Data: "\x04\x18\x01\x02\x05\x00" + id + "\x02"},
		{Type: 10, Data: "\x01\x18\x01\x02\x05\x00" + id + "abc\x80\x00"},
		{Type: 10, Data: "\x01\x18\x01\x02\x00\x00" + id + "abc"},
		{Type: 10, Data: "\x00\x00\x01\x02\x05\x00" + id},
	}
}

// wrong is a TLV that has that error where nothing is known.
type wrong struct {
	typ  int
	data string
	err  api.Errno
}

// wrongs are TLVs of each type that may have an error, with each one that it may
// have.
func wrongs() []wrong {
	subs := strings.Repeat("\x40\x00", 101)
	l := []wrong{
		{8, "\x01\x00\x21\x00" + numbers + "abcde", api.ErrRange},
		{8, "\x03\x00\x3f\x00" + numbers + "abcdefgh", api.ErrRange},
		{8, "\x01\x00\x18\x04" + numbers + "abc", api.ErrRange},
		{8, "\x01\x00\x18\x01" + numbers + "bc", api.ErrCtx},
		{8, "\x02\x00\x18\x03" + far, api.ErrCtx},
		{8, "\x03\x00\x58\x02" + numbers + "c\x80\x00", api.ErrCtx},
		{8, "\x01\x00\x18\x01" + numbers + "bc\x02", api.ErrShort},
		{9, "\x02\x81abcdefghijklmnopq", api.ErrRange},
		{9, "\x00\x01a", api.ErrRange},
		{10, "\x01\x21\x01\x02\x05\x00" + id + "abcde", api.ErrRange},
		{10, "\x03\x3f\x01\x02\x05\x00" + id + "abcdefgh", api.ErrRange},
	}
	for _, s := range samples() {
		l = append(l,
			wrong{s.typ, s.data[:len(s.data)-1], api.ErrShort},
			wrong{s.typ, s.data + "\x02", api.ErrShort},
			wrong{s.typ, s.data + subs, api.ErrLong})
	}
	return l
}

// hopeful is bytes of TLVs that say what is known: default prefixes of all
// encodings, next hops of both families, and a router-id. They tell no message.
const hopeful = "\x06\x0a\x00\x00" + id +
	"\x07\x06\x01\x00abcd" +
	"\x07\x0a\x03\x00abcdefgh" +
	"\x08\x0f\x01\x80\x18\x00" + numbers + "\xa1\xa2\xa3\x80\x00" +
	"\x08\x0f\x02\x80\x18\x00" + numbers + "\xb1\xb2\xb3\x80\x00" +
	"\x08\x0f\x03\x80\x58\x00" + numbers + "\xc1\xc2\xc3\x80\x00"

// headed is those first two bytes, a length, and what stands behind it, laid by
// means of their own.
func headed(first, second byte, size int, rest string) string {
	return string(binary.BigEndian.AppendUint16([]byte{first, second}, uint16(size))) + rest
}

// wrapped is the datagram of body, with that trailer.
func wrapped(body, trailer string) string {
	return headed(42, 2, len(body), body+trailer)
}

// spelled is the bytes of the TLVs of l, of which each may be.
func spelled(l []api.Tlv) string {
	var b []byte
	for _, v := range l {
		if v.Type == 0 {
			b = append(b, 0)
			continue
		}
		b = append(b, byte(v.Type), byte(len(v.Data)))
		b = append(b, v.Data...)
	}
	return string(b)
}

// placed is the TLVs of l, each where it begins, the first one at base.
func placed(l []api.Tlv, base int) []api.Tlv {
	var all []api.Tlv
	for _, v := range l {
		v.At = base
		all = append(all, v)
		base += len(spelled([]api.Tlv{v}))
	}
	return all
}

// split is the TLVs of s, which begins at base, and that all of them are there;
// or else the place of the first one that isn't.
func split(s string, base int) ([]api.Tlv, int, bool) {
	var l []api.Tlv
	for i := 0; i < len(s); {
		if s[i] == 0 {
			l = append(l, api.Tlv{At: base + i})
			i++
			continue
		}
		if len(s) < i+2 || len(s) < i+2+int(s[i+1]) {
			return nil, base + i, false
		}
		end := i + 2 + int(s[i+1])
		l = append(l, api.Tlv{Type: int(s[i]), At: base + i, Data: s[i+2 : end]})
		i = end
	}
	return l, 0, true
}

// folded is what the chapter's words make of Fold, by the layers below, each
// TLV's by its own.
func folded(l []api.Tlv) answer {
	var a answer
	for _, v := range l {
		var m api.Msg
		var counts bool
		var err api.Errno
		switch {
		case v.Type < 2:
		case v.Type < 6:
			m, counts, err = field.Get(v)
		case v.Type < 9:
			var more []api.Msg
			a.ctx, more, err = ctx.Step(a.ctx, v)
			a.told = slices.Concat(a.told, more)
		case v.Type < 11:
			m, counts, err = route.Get(v)
		default:
			m, counts = api.Msg{Kind: 14, Type: v.Type, Data: v.Data}, true
		}
		if err != api.OK {
			return answer{at: v.At, err: err}
		}
		if counts {
			a.told = append(a.told, m)
		}
	}
	return a
}

// parsed is what the chapter's words make of Parse, by means of their own, but
// for what TLVs tell. What is known isn't told.
func parsed(b string) answer {
	if len(b) > limit {
		return answer{at: limit, err: api.ErrLong}
	}
	if len(b) < 4 {
		return answer{at: len(b), err: api.ErrShort}
	}
	if b[0] != 42 {
		return answer{at: 0, err: api.ErrKind}
	}
	if b[1] != 2 {
		return answer{at: 1, err: api.ErrKind}
	}
	end := 4 + int(b[2])<<8 + int(b[3])
	if end > len(b) {
		return answer{at: len(b), err: api.ErrShort}
	}
	l, at, all := split(b[4:end], 4)
	if !all {
		return answer{at: at, err: api.ErrShort}
	}
	if _, at, all := split(b[end:], end); !all {
		return answer{at: at, err: api.ErrShort}
	}
	a := folded(l)
	a.ctx = api.Ctx{}
	return a
}

// with is l with v at the place i, ahead of those from there on.
func with(l []api.Tlv, i int, v api.Tlv) []api.Tlv {
	return slices.Concat(l[:i], []api.Tlv{v}, l[i:])
}

// withSubs is the messages of l, each with those Subs.
func withSubs(l []api.Msg, subs []api.Sub) []api.Msg {
	var all []api.Msg
	for _, m := range l {
		m.Subs = subs
		all = append(all, m)
	}
	return all
}

// same tells whether a and b are the same in all fields, where a list that is
// nil is the same as an empty one.
func same(a, b api.Msg) bool {
	alike := slices.Equal(a.Subs, b.Subs) && slices.Equal(a.List, b.List)
	a.Subs, b.Subs, a.List, b.List = nil, nil, nil, nil
	return alike && reflect.DeepEqual(a, b)
}

// mayBe tells whether m is a message of Babel that may be.
func mayBe(m api.Msg) bool {
	opaque := m.Type > 10 && m.Type < 256 && len(m.Data) < 256 && same(m, api.Msg{Kind: 14, Type: m.Type, Data: m.Data})
	return opaque || field.Right(m) || ctx.Right(m) || route.Right(m)
}

// sketch is v in short.
func sketch(v any) string { return fmt.Sprintf("%.900s", fmt.Sprintf("%#v", v)) }

// checkAnswer holds TLVs to be answered so.
func checkAnswer(t *testing.T, l []api.Tlv, want answer) {
	t.Helper()
	told, known, at, err := Fold(l)
	if !slices.EqualFunc(told, want.told, same) || known != want.ctx || at != want.at || err != want.err {
		t.Errorf("Fold of %s = %s; want %s", sketch(l), sketch(answer{told, known, at, err}), sketch(want))
	}
	if err != api.OK && (len(told) > 0 || known != api.Ctx{}) {
		t.Errorf("Fold of %s has the error %d beside %s and %s", sketch(l), err, sketch(told), sketch(known))
	}
}

// checkFold holds TLVs to be answered as the chapter's words say.
func checkFold(t *testing.T, l []api.Tlv) {
	t.Helper()
	checkAnswer(t, l, folded(l))
}

// checkOne holds a TLV, alone, to tell these messages, and that to be known
// behind it; and the datagram of it to have these messages.
func checkOne(t *testing.T, typ int, data string, told []api.Msg, known api.Ctx) {
	t.Helper()
	l := []api.Tlv{{Type: typ, At: 9, Data: data}}
	checkAnswer(t, l, answer{told: told, ctx: known})
	checkFold(t, l)
	checkMessages(t, wrapped(spelled(l), ""), told)
}

// checkWrong holds a TLV, alone, to have that error, at its place.
func checkWrong(t *testing.T, typ int, data string, err api.Errno) {
	t.Helper()
	for _, at := range []int{0, 9, 65534, -7} {
		l := []api.Tlv{{Type: typ, At: at, Data: data}}
		checkAnswer(t, l, answer{at: at, err: err})
		checkFold(t, l)
	}
	if len(data) < 256 {
		checkError(t, wrapped(spelled([]api.Tlv{{Type: typ, Data: data}}), ""), 4, err)
	}
}

// checkRead holds the datagram b to be answered so, where what is known isn't
// told.
func checkRead(t *testing.T, b string, want answer) {
	t.Helper()
	told, at, err := Parse(b)
	if !slices.EqualFunc(told, want.told, same) || at != want.at || err != want.err {
		t.Errorf("Parse of %d bytes, %.99q, = %d messages, %s, at %d, error %d; want %d, %s, at %d, error %d", len(b), b, len(told), sketch(told), at, err, len(want.told), sketch(want.told), want.at, want.err)
	}
	if err != api.OK && len(told) > 0 || at < 0 || at > len(b) {
		t.Errorf("Parse of %d bytes, %.99q, has the error %d, at %d, beside %s", len(b), b, err, at, sketch(told))
	}
	for _, m := range told {
		if !mayBe(m) {
			t.Errorf("Parse of %d bytes, %.99q, tells %s, which may not be", len(b), b, sketch(m))
		}
	}
}

// checkParse holds b to be answered as the chapter's words say.
func checkParse(t *testing.T, b string) {
	t.Helper()
	checkRead(t, b, parsed(b))
}

// checkMessages holds b to be a datagram of these messages.
func checkMessages(t *testing.T, b string, told []api.Msg) {
	t.Helper()
	checkRead(t, b, answer{told: told})
	checkParse(t, b)
}

// checkError holds b to have that error, at that place.
func checkError(t *testing.T, b string, at int, err api.Errno) {
	t.Helper()
	checkRead(t, b, answer{at: at, err: err})
	checkParse(t, b)
}

// someTlv is any TLV, most of them without an error.
func someTlv(r *rand.Rand) api.Tlv {
	all := samples()
	s := all[r.Intn(len(all))]
	v := api.Tlv{Type: s.typ, Data: s.data}
	switch r.Intn(10) {
	case 0:
		v = api.Tlv{Type: 11 + r.Intn(245), Data: someBytes(r, r.Intn(20))}
	case 1, 2:
		v = someUpdate(r)
	case 3:
		v = api.Tlv{}
	case 4:
		v = api.Tlv{Type: 1, Data: someBytes(r, r.Intn(5))}
	case 5:
		// An Update of any length has an error, but for a few.
		if v.Type != 8 {
			v.Data = v.Data[:2] + someBytes(r, len(v.Data)-2)
		}
	}
	if v.Type > 1 && v.Type < 11 {
		v.Data += behind[r.Intn(len(behind))].bytes
	}
	if v.Type > 0 && r.Intn(100) == 0 {
		v.Data = someBytes(r, r.Intn(16))
	}
	return v
}

// someUpdate is any Update whose bytes are there, many of which leave some out.
func someUpdate(r *rand.Rand) api.Tlv {
	ae, need := 1+r.Intn(3), 1+r.Intn(4)
	omitted := r.Intn(need + 1)
	plen := 8*need - r.Intn(8)
	if ae == 3 {
		plen += 64
	}
	data := string([]byte{byte(ae), byte(r.Intn(4)<<6 | r.Intn(64)), byte(plen), byte(omitted)})
	nums := []string{numbers, far}[r.Intn(2)]
	return api.Tlv{Type: 8, Data: data + nums + someBytes(r, need-omitted)}
}

// someList is n TLVs at most.
func someList(r *rand.Rand, n int) []api.Tlv {
	var l []api.Tlv
	for range r.Intn(n + 1) {
		l = append(l, someTlv(r))
	}
	return l
}

// someBytes are n bytes.
func someBytes(r *rand.Rand, n int) string {
	b := make([]byte, n)
	r.Read(b)
	return string(b)
}
