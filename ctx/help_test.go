package ctx

import (
	"encoding/binary"
	"fmt"
	"math"
	"math/rand"
	"reflect"
	"slices"
	"strings"
	"testing"

	"roadbook/api"
)

// mostSubs is how many bytes Subs may have together.
const mostSubs = 200

const (
	// head is how a link-local address begins.
	head = "\xfe\x80\x00\x00\x00\x00\x00\x00"
	// id is a router-id.
	id = "ABCDEFGH"
	// ipv4Addr is an address of IPv4, linkAddr and ipv6Addr are such of IPv6, the
	// one link-local, the other not: all without a byte that is 0, but in head.
	ipv4Addr = "\xa1\xa2\xa3\xa5"
	linkAddr = head + "\xc1\xc2\xc3\xc4\xc5\xc6\xc7\xc9"
	ipv6Addr = "\xb1\xb2\xb3\xb4\xb5\xb6\xb7\xb8\xb9\xba\xbb\xbc\xbd\xbe\xbf\xb5"
	// ipv4Next, linkNext and ipv6Next are such, too, each another one.
	ipv4Next = "\xd1\xd2\xd3\xd4"
	linkNext = head + "\xe1\xe2\xe3\xe4\xe5\xe6\xe7\xe8"
	ipv6Next = "\xf1\xf2\xf3\xf4\xf5\xf6\xf7\xf8\xf9\xfa\xfb\xfc\xfd\xfe\xff\xf1"
)

// all is what is known where all is known.
var all = api.Ctx{Prefix: [4]string{"", ipv4Addr, ipv6Addr, linkAddr}, Next: [2]string{ipv4Next, linkNext}, Id: id}

// lengths are the least and the greatest length of each encoding.
var lengths = map[int][2]int{0: {0, 0}, 1: {0, 32}, 2: {0, 128}, 3: {64, 128}}

// plens are lengths about all edges, and some that no prefix has; the last byte
// of some would do.
var plens = []int{
	-1, 0, 1, 7, 8, 9, 15, 16, 17, 23, 24, 25, 31, 32, 33, 40, 56, 63, 64, 65, 71, 72, 73, 96, 120, 127, 128, 129, 136, 192, 255,
	-2, -8, -64, -128, -256, 256, 264, 280, 320, 384, 65536, 65600, 1 << 32, 1<<32 + 8, 1<<32 + 64, math.MaxInt, math.MaxInt - 7, math.MinInt, math.MinInt + 64,
}

// otherAes are encodings that there aren't; the last byte of some would do.
var otherAes = []int{-1, -2, -3, -4, -253, -254, -255, -256, 4, 5, 8, 16, 127, 128, 255, 256, 257, 258, 259, 65536, 65537, 1 << 32, 1<<32 + 1, 1<<32 + 3, math.MaxInt, math.MaxInt - 1, math.MinInt, math.MinInt + 1, math.MinInt + 3}

// goodNums are such as fit into two bytes, badNums such as don't.
var (
	goodNums = []int{0, 1, 2, 127, 128, 255, 256, 257, 32767, 32768, 65534, 65535}
	badNums  = []int{-1, -2, -255, -256, -65535, -65536, 65536, 65537, 131071, 1 << 24, 1 << 31, 1<<32 + 1, math.MaxInt, math.MaxInt - 1, math.MinInt, math.MinInt + 1}
)

// badIds are Ids that no way has.
var badIds = []string{"", "a", id[:7], id + "I", id + id, strings.Repeat("a", 264)}

// addresses are texts of all sizes that an address has, and of others, some of
// them link-local.
func addresses() []string {
	var l []string
	for _, size := range []int{0, 1, 3, 4, 5, 7, 8, 9, 12, 15, 16, 17, 24, 32, 260, 272} {
		for _, fill := range []string{"\x00", "\xff", "\xa5\x5a\x01\x80", head, head + "\xff\xff\xff\xff\xff\xff\xff\xff", head[:7] + "\x01\x80\x00\x00\x00\x00\x00\x00\x01"} {
			l = append(l, strings.Repeat(fill, size/len(fill)+1)[:size])
		}
	}
	return l
}

// contexts are what may be known, with each place empty and not.
func contexts() []api.Ctx {
	var l []api.Ctx
	for i := range 32 {
		for _, next := range []string{"", linkNext, ipv6Next} {
			c := api.Ctx{Next: [2]string{"", next}}
			for ae := range 3 {
				if i>>ae&1 == 1 {
					c.Prefix[ae+1] = all.Prefix[ae+1]
				}
			}
			if i>>3&1 == 1 {
				c.Next[0] = ipv4Next
			}
			if i>>4&1 == 1 {
				c.Id = id
			}
			l = append(l, c)
		}
	}
	return l
}

// few are a few of these: nothing, all, and each place alone that an Update
// looks at.
func few() []api.Ctx {
	return []api.Ctx{
		{},
		all,
		{Id: id},
		{Next: all.Next},
		{Prefix: all.Prefix},
		{Prefix: [4]string{"", ipv4Addr}, Next: [2]string{"", ipv6Next}, Id: id},
		{Prefix: [4]string{"", "", ipv6Addr}, Next: [2]string{ipv4Next, ""}, Id: id},
		{Prefix: [4]string{"", "", "", linkAddr}, Id: id},
	}
}

// wrongAt is a with its i-th bit the other way round, if there is one.
func wrongAt(a string, i int) string {
	if i < 0 || i >= 8*len(a) {
		return a
	}
	b := []byte(a)
	b[i/8] ^= 0x80 >> (i % 8)
	return string(b)
}

// clean is a with all bits from the plen-th on 0.
func clean(a string, plen int) string {
	b := []byte(a)
	for i := max(plen, 0); i < 8*len(b); i++ {
		b[i/8] &^= 0x80 >> (i % 8)
	}
	return string(b)
}

// long tells whether prefixes in that encoding may have that length.
func long(ae, plen int) bool {
	l, is := lengths[ae]
	return is && plen >= l[0] && plen <= l[1]
}

// in tells whether a, with that length, is a prefix in that encoding.
func in(ae int, a string, plen int) bool {
	size := map[int]int{0: 0, 1: 4, 2: 16, 3: 16}[ae]
	return long(ae, plen) && len(a) == size && a == clean(a, plen) && (ae != 3 || a[:8] == head)
}

// size is how many bytes a prefix of that length has in that encoding.
func size(ae, plen int) int {
	n := 0
	for 8*n < plen {
		n++
	}
	if ae == 3 {
		n -= 8
	}
	return n
}

// right is what the chapter's words make of Ok, by means of their own.
func right(c api.Ctx) bool {
	var is [7]bool
	is[0] = c.Prefix[0] == ""
	is[1] = c.Prefix[1] == "" || len(c.Prefix[1]) == 4
	is[2] = c.Prefix[2] == "" || len(c.Prefix[2]) == 16
	is[3] = c.Prefix[3] == "" || len(c.Prefix[3]) == 16 && strings.HasPrefix(c.Prefix[3], head)
	is[4] = c.Next[0] == "" || len(c.Next[0]) == 4
	is[5] = c.Next[1] == "" || len(c.Next[1]) == 16
	is[6] = c.Id == "" || len(c.Id) == 8
	return is == [7]bool{true, true, true, true, true, true, true}
}

// mayBe is what the chapter's words make of Right, by means of their own.
func mayBe(m api.Msg) bool {
	bare := api.Msg{Kind: 11, Ae: m.Ae, Prefix: m.Prefix, Plen: m.Plen, Interval: m.Interval, Seq: m.Seq, Metric: m.Metric, Id: m.Id, Next: m.Next, Subs: m.Subs}
	if !same(m, bare) || !in(m.Ae, m.Prefix, m.Plen) || !rightSubs(m.Subs) {
		return false
	}
	for _, n := range []int{m.Interval, m.Seq, m.Metric} {
		if n < 0 || n > 65535 {
			return false
		}
	}
	if m.Metric == 65535 {
		return m.Id+m.Next == ""
	}
	next := map[int]int{1: 4, 2: 16, 3: 16}[m.Ae]
	return m.Ae != 0 && len(m.Id) == 8 && (m.Next == "" || len(m.Next) == next)
}

// rightSubs tells whether Subs may be.
func rightSubs(l []api.Sub) bool {
	bytes := 0
	for _, s := range l {
		if s.Type < 2 || s.Type > 127 || len(s.Data) > 255 {
			return false
		}
		bytes += 2 + len(s.Data)
	}
	return bytes <= mostSubs
}

// sized is the Sub of that type whose Data has n bytes, each another than the
// one next to it.
func sized(typ, n int) api.Sub {
	b := make([]byte, n)
	for i := range b {
		b[i] = byte(i + i>>8 + 1)
	}
	return api.Sub{Type: typ, Data: string(b)}
}

// lists are lists of Subs that may be, up to 200 bytes together.
func lists() [][]api.Sub {
	return [][]api.Sub{
		nil,
		{},
		{{Type: 2}},
		{sized(127, 1)},
		{{Type: 2, Data: "\x80\x00"}, {Type: 3, Data: "\x00\x01\x00"}, {Type: 2}},
		{sized(2, 198)},
		{sized(127, 98), sized(126, 98)},
		slices.Repeat([]api.Sub{{Type: 64}}, 100),
	}
}

// wrongLists are lists of Subs that may not be.
func wrongLists() [][]api.Sub {
	l := [][]api.Sub{
		{sized(2, 199)},
		{sized(127, 98), sized(126, 99)},
		slices.Repeat([]api.Sub{{Type: 64}}, 101),
		{sized(3, 255)},
		{sized(2, 256)},
		{sized(2, 65538)},
	}
	for _, typ := range []int{0, 1, 128, 129, 255, 256, 258, 1<<32 + 2, -1, -254, math.MaxInt, math.MinInt, math.MinInt + 2} {
		l = append(l, []api.Sub{{Type: typ}}, []api.Sub{{Type: 2}, sized(typ, 1), {Type: 3}})
	}
	return l
}

// behind are bytes behind a TLV's fields that have no error, what is kept of
// them, and whether none of them must be known.
var behind = []struct {
	bytes string
	subs  []api.Sub
	known bool
}{
	{"", nil, true},
	{"\x00", nil, true},
	{"\x00\x00\x00", nil, true},
	{"\x01\x00", nil, true},
	{"\x01\x03\x80\x00a", nil, true},
	{strings.Repeat("\x00", 225), nil, true},
	{"\x02\x00", []api.Sub{{Type: 2}}, true},
	{"\x7f\x01a", []api.Sub{{Type: 127, Data: "a"}}, true},
	{"\x00\x03\x02\x80\x00\x01\x00\x02\x00\x00", []api.Sub{{Type: 3, Data: "\x80\x00"}, {Type: 2}}, true},
	{"\x09\xc6" + strings.Repeat("b", 198), []api.Sub{{Type: 9, Data: strings.Repeat("b", 198)}}, true},
	{"\x80\x00", nil, false},
	{"\xff\x01a", nil, false},
	{"\x02\x00\x81\x00\x03\x00", []api.Sub{{Type: 2}, {Type: 3}}, false},
	{"\x00\x80\x00\x00", nil, false},
	{"\x09\xc6" + strings.Repeat("b", 198) + "\x80\x01a", []api.Sub{{Type: 9, Data: strings.Repeat("b", 198)}}, false},
	{"\x80\xdf" + strings.Repeat("\x00", 223), nil, false},
}

// wrongBehind are such that have an error.
var wrongBehind = []struct {
	bytes string
	err   api.Errno
}{
	{"\x01", api.ErrShort},
	{"\x02", api.ErrShort},
	{"\x80", api.ErrShort},
	{"\x02\x01", api.ErrShort},
	{"\x01\x01", api.ErrShort},
	{"\x80\x02a", api.ErrShort},
	{"\x00\x02\x00\x05", api.ErrShort},
	{"\x80\x00\x05", api.ErrShort},
	{"\x09\xc7" + strings.Repeat("b", 198), api.ErrShort},
	{"\x09\xc7" + strings.Repeat("b", 199) + "\x02", api.ErrShort},
	{"\x09\xc7" + strings.Repeat("b", 199), api.ErrLong},
	{"\x09\xc6" + strings.Repeat("b", 198) + "\x02\x00", api.ErrLong},
	{"\x80\x00\x09\xc7" + strings.Repeat("b", 199), api.ErrLong},
	{"\x09\xc7" + strings.Repeat("b", 199) + "\x80\x00", api.ErrLong},
	{strings.Repeat("\x40\x00", 101), api.ErrLong},
}

// spelledNum is the two bytes of n.
func spelledNum(n int) string {
	return string(binary.BigEndian.AppendUint16(nil, uint16(n)))
}

// spelledSubs is the bytes of the sub-TLVs of l, none of which is of the type 0.
func spelledSubs(l []api.Sub) string {
	var b []byte
	for _, s := range l {
		b = append(b, byte(s.Type), byte(len(s.Data)))
		b = append(b, s.Data...)
	}
	return string(b)
}

// spelled is the data of the Update's TLV that u is.
func spelled(u api.Raw) string {
	return string([]byte{byte(u.Ae), byte(u.Flags), byte(u.Plen), byte(u.Omitted)}) +
		spelledNum(u.Interval) + spelledNum(u.Seq) + spelledNum(u.Metric) + u.Bytes + spelledSubs(u.Subs)
}

// updates are Updates of each encoding, of lengths about the edges, that leave
// out nothing, a byte, and as many as may be; some bits behind the length are 1.
func updates() []api.Raw {
	const bytes = "\x91\x92\x93\x94\x95\x96\x97\x98\x99\x9a\x9b\x9c\x9d\x9e\x9f\xff"
	var l []api.Raw
	for ae := range 4 {
		for _, plen := range plens {
			if !long(ae, plen) {
				continue
			}
			need := size(ae, plen)
			for omitted := range need + 1 {
				if omitted < 2 || omitted >= need-1 {
					l = append(l, api.Raw{Ae: ae, Plen: plen, Omitted: omitted, Interval: 0xa1a2, Seq: 0xb1b2, Metric: 0xc1c2, Bytes: bytes[omitted:need]})
				}
			}
		}
	}
	return l
}

// answer is what Step answers.
type answer struct {
	ctx  api.Ctx
	told []api.Msg
	err  api.Errno
}

// readSubs is what is kept of the sub-TLVs that s is, and whether none must be
// known; or the error of s.
func readSubs(s string) ([]api.Sub, bool, api.Errno) {
	var l []api.Sub
	known, bytes := true, 0
	for s != "" {
		if s[0] == 0 {
			s = s[1:]
			continue
		}
		if len(s) < 2 || len(s) < 2+int(s[1]) {
			return nil, false, api.ErrShort
		}
		end := 2 + int(s[1])
		switch {
		case s[0] > 127:
			known = false
		case s[0] > 1:
			l = append(l, api.Sub{Type: int(s[0]), Data: s[2:end]})
			bytes += end
		}
		s = s[end:]
	}
	if bytes > mostSubs {
		return nil, false, api.ErrLong
	}
	return l, known, api.OK
}

// stepped is what the chapter's words make of a TLV of the types 6 to 8, by
// means of their own.
func stepped(c api.Ctx, typ int, data string) answer {
	switch typ {
	case 6:
		return steppedId(c, data)
	case 7:
		return steppedNext(c, data)
	}
	return steppedUpdate(c, data)
}

// steppedId is that of the type 6.
func steppedId(c api.Ctx, data string) answer {
	if len(data) < 10 {
		return answer{c, nil, api.ErrShort}
	}
	_, known, err := readSubs(data[10:])
	if known {
		c.Id = data[2:10]
	}
	return answer{c, nil, err}
}

// steppedNext is that of the type 7.
func steppedNext(c api.Ctx, data string) answer {
	if len(data) < 2 {
		return answer{c, nil, api.ErrShort}
	}
	size, is := map[byte]int{1: 4, 2: 16, 3: 8}[data[0]]
	if !is {
		return answer{c, nil, api.OK}
	}
	if len(data) < 2+size {
		return answer{c, nil, api.ErrShort}
	}
	_, known, err := readSubs(data[2+size:])
	switch a := data[2 : 2+size]; {
	case !known:
	case data[0] == 1:
		c.Next[0] = a
	case data[0] == 2:
		c.Next[1] = a
	default:
		c.Next[1] = head + a
	}
	return answer{c, nil, err}
}

// steppedUpdate is that of the type 8.
func steppedUpdate(c api.Ctx, data string) answer {
	if len(data) < 10 {
		return answer{c, nil, api.ErrShort}
	}
	ae, flags, plen, omitted := int(data[0]), data[1], int(data[2]), int(data[3])
	if ae > 3 {
		return answer{c, nil, api.OK}
	}
	if !long(ae, plen) || omitted > size(ae, plen) {
		return answer{c, nil, api.ErrRange}
	}
	end := 10 + size(ae, plen) - omitted
	if len(data) < end {
		return answer{c, nil, api.ErrShort}
	}
	subs, known, err := readSubs(data[end:])
	if err != api.OK {
		return answer{c, nil, err}
	}
	if omitted > 0 && c.Prefix[ae] == "" {
		return answer{c, nil, api.ErrCtx}
	}
	return heard(c, ae, flags, plen, omitted, data, subs, known)
}

// heard is that of an Update that has no error.
func heard(c api.Ctx, ae int, flags byte, plen, omitted int, data string, subs []api.Sub, known bool) answer {
	a := make([]byte, map[int]int{0: 0, 1: 4, 2: 16, 3: 16}[ae])
	first := 0
	if ae == 3 {
		first = copy(a, head)
	}
	// What is left out, byte by byte, and what stands behind it.
	for i := first; i < first+size(ae, plen); i++ {
		if i < first+omitted {
			a[i] = c.Prefix[ae][i]
		} else {
			a[i] = data[10+i-first-omitted]
		}
	}
	num := func(at int) int { return int(binary.BigEndian.Uint16([]byte(data[at:]))) }
	m := api.Msg{Kind: 11, Ae: ae, Prefix: clean(string(a), plen), Plen: plen, Interval: num(4), Seq: num(6), Metric: num(8), Subs: subs}
	if ae > 0 && flags&0x80 != 0 {
		c.Prefix[ae] = m.Prefix
	}
	if ae > 0 && flags&0x40 != 0 {
		c.Id = ("\x00\x00\x00\x00\x00\x00\x00\x00" + m.Prefix)[len(m.Prefix):]
	}
	switch {
	case !known || ae == 0 && m.Metric != 65535:
		return answer{c, nil, api.OK}
	case m.Metric == 65535:
	case c.Id == "":
		return answer{c, nil, api.OK}
	case ae == 1:
		m.Id, m.Next = c.Id, c.Next[0]
	default:
		m.Id, m.Next = c.Id, c.Next[1]
	}
	return answer{c, []api.Msg{m}, api.OK}
}

// with is m with that value in the field of that name.
func with[T any](m T, name string, value any) T {
	reflect.ValueOf(&m).Elem().FieldByName(name).Set(reflect.ValueOf(value))
	return m
}

// same tells whether a and b are the same in all fields, where a list that is
// nil is the same as an empty one.
func same(a, b api.Msg) bool {
	alike := slices.Equal(a.Subs, b.Subs) && slices.Equal(a.List, b.List)
	a.Subs, b.Subs, a.List, b.List = nil, nil, nil, nil
	return alike && reflect.DeepEqual(a, b)
}

// sketch is v in short.
func sketch(v any) string { return fmt.Sprintf("%.900s", fmt.Sprintf("%#v", v)) }

// checkOk holds Ok to tell what the chapter's words make of it.
func checkOk(t *testing.T, c api.Ctx, want bool) {
	t.Helper()
	if got := Ok(c); got != want || right(c) != want {
		t.Errorf("Ok of %s = %t; want %t, by its words %t", sketch(c), got, want, right(c))
	}
}

// checkRight holds Right to tell what the chapter's words make of it.
func checkRight(t *testing.T, what string, m api.Msg, want bool) {
	t.Helper()
	if got := Right(m); got != want || mayBe(m) != want {
		t.Errorf("%s: Right of %s = %t; want %t, by its words %t", what, sketch(m), got, want, mayBe(m))
	}
}

// checkAnswer holds a TLV to be answered so; and what is known behind it, and
// what is told, to be such as may be.
func checkAnswer(t *testing.T, c api.Ctx, typ int, data string, want answer) {
	t.Helper()
	got, told, err := Step(c, api.Tlv{Type: typ, At: 9, Data: data})
	if got != want.ctx || !slices.EqualFunc(told, want.told, same) || err != want.err {
		t.Errorf("the type %d, %.99q, where is known %s, has %s; want %s", typ, data, sketch(c), sketch(answer{got, told, err}), sketch(want))
	}
	if err != api.OK && (got != c || len(told) > 0) {
		t.Errorf("the type %d, %.99q, has the error %d beside %s, where was known %s", typ, data, err, sketch(got), sketch(c))
	}
	if right(c) && !Ok(got) {
		t.Errorf("the type %d, %.99q, leaves behind it %s, which may not be", typ, data, sketch(got))
	}
	for _, m := range told {
		if right(c) && !Right(m) {
			t.Errorf("the type %d, %.99q, tells %s, which may not be", typ, data, sketch(m))
		}
	}
}

// checkStep holds a TLV to be answered as the chapter's words say.
func checkStep(t *testing.T, c api.Ctx, typ int, data string) {
	t.Helper()
	checkAnswer(t, c, typ, data, stepped(c, typ, data))
}

// checkError holds a TLV to have that error, and to say nothing.
func checkError(t *testing.T, c api.Ctx, typ int, data string, err api.Errno) {
	t.Helper()
	checkAnswer(t, c, typ, data, answer{c, nil, err})
	checkStep(t, c, typ, data)
}

// checkNothing holds a TLV to say nothing, without an error.
func checkNothing(t *testing.T, c api.Ctx, typ int, data string) {
	t.Helper()
	checkError(t, c, typ, data, api.OK)
}

// someUpdate is any Update's data, where the bytes are all there.
func someUpdate(r *rand.Rand) string {
	ae := r.Intn(4)
	plen := lengths[ae][0] + r.Intn(lengths[ae][1]-lengths[ae][0]+1)
	omitted := r.Intn(size(ae, plen) + 1)
	if r.Intn(2) == 0 {
		omitted = 0
	}
	u := api.Raw{Ae: ae, Flags: r.Intn(4)<<6 | r.Intn(64), Plen: plen, Omitted: omitted, Interval: r.Intn(65536), Seq: r.Intn(65536), Metric: r.Intn(65536)}
	if r.Intn(4) == 0 {
		u.Metric = 65535
	}
	u.Bytes = someBytes(r, size(ae, plen)-omitted)
	return spelled(u) + someBehind(r)
}

// someTlv is any TLV of the types 6 to 8, most of them without an error.
func someTlv(r *rand.Rand) (int, string) {
	typ, data := 8, ""
	switch r.Intn(6) {
	case 0:
		typ, data = 6, someBytes(r, 10)+someBehind(r)
	case 1:
		ae := r.Intn(5)
		typ, data = 7, string([]byte{byte(ae), byte(r.Intn(256))})+someBytes(r, map[int]int{1: 4, 2: 16, 3: 8}[ae])+someBehind(r)
	default:
		data = someUpdate(r)
	}
	switch r.Intn(12) {
	case 0:
		data = data[:r.Intn(len(data))]
	case 1:
		data = wrongAt(data, r.Intn(8*len(data)))
	}
	return typ, data
}

// someBehind are any bytes behind a TLV's fields.
func someBehind(r *rand.Rand) string {
	if r.Intn(16) == 0 {
		return wrongBehind[r.Intn(len(wrongBehind))].bytes
	}
	return behind[r.Intn(len(behind))].bytes
}

// someBytes are n bytes.
func someBytes(r *rand.Rand, n int) string {
	b := make([]byte, n)
	r.Read(b)
	return string(b)
}
