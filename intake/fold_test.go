package intake

import (
	"math"
	"slices"
	"strings"
	"testing"

	"roadbook/api"
)

func TestP23_1FoldExamples(t *testing.T) {
	// A router-id, an Update, and one that leaves out two bytes: both by that
	// router-id.
	l := []api.Tlv{
		{Type: 6, At: 4, Data: "\x00\x00" + id},
		{Type: 8, At: 16, Data: "\x01\x80\x10\x00" + numbers + "\x0a\x01"},
		{Type: 8, At: 30, Data: "\x01\x00\x18\x02" + numbers + "\x07"},
	}
	first := api.Msg{Kind: api.Update, Ae: 1, Prefix: "\x0a\x01\x00\x00", Plen: 16, Interval: 1, Seq: 2, Metric: 3, Id: id}
	second := api.Msg{Kind: api.Update, Ae: 1, Prefix: "\x0a\x01\x07\x00", Plen: 24, Interval: 1, Seq: 2, Metric: 3, Id: id}
	known := api.Ctx{Prefix: [4]string{"", "\x0a\x01\x00\x00"}, Id: id}
	checkAnswer(t, l, answer{told: []api.Msg{first, second}, ctx: known})
	checkAnswer(t, l[:2], answer{told: []api.Msg{first}, ctx: known})
	checkAnswer(t, l[:1], answer{ctx: api.Ctx{Id: id}})
	// The second Update alone, and ahead of the first.
	checkAnswer(t, l[2:], answer{at: 30, err: api.ErrCtx})
	checkAnswer(t, []api.Tlv{l[0], l[2], l[1]}, answer{at: 30, err: api.ErrCtx})
	// Without the router-id there is no way to be told, but a default prefix.
	checkAnswer(t, l[1:], answer{ctx: api.Ctx{Prefix: known.Prefix}})
	// What must be known hides the first Update alone.
	l[1].Data += "\x80\x00"
	checkAnswer(t, l, answer{told: []api.Msg{second}, ctx: known})
	// All types in one list, in order.
	checkAnswer(t, []api.Tlv{
		{Type: 255, At: 4, Data: "z"}, {Type: 3, At: 7, Data: "\x00\x07"}, {Type: 0, At: 11}, {Type: 9, At: 12, Data: "\x00\x00"},
		{Type: 4, At: 16, Data: "\x00\x00\x00\x01\x00\x64"}, {Type: 1, At: 24}, {Type: 11, At: 26}, {Type: 3, At: 28, Data: "\x00\x07"},
	}, answer{told: []api.Msg{
		{Kind: api.Opaque, Type: 255, Data: "z"}, {Kind: api.Ack, Nonce: 7}, {Kind: api.RouteReq},
		{Kind: api.Hello, Seq: 1, Interval: 100}, {Kind: api.Opaque, Type: 11}, {Kind: api.Ack, Nonce: 7},
	}})
}

func TestP23_1NoTlvs(t *testing.T) {
	checkAnswer(t, nil, answer{})
	checkAnswer(t, []api.Tlv{}, answer{})
	checkAnswer(t, make([]api.Tlv, 0, 9), answer{})
	checkMessages(t, "\x2a\x02\x00\x00", nil)
}

// Each type that a TLV may have, with data of many sizes: padding says nothing,
// whatever it holds; a type that nobody knows is a message, whose data aren't
// looked at.
func TestP23_1EachType(t *testing.T) {
	datas := []string{"", "a", "\x00", "\x80\x00", "\x02", "\x02\x05ab", "\x01\x00\x18\x02" + numbers + "\x07", "\x00\x00" + id, wrapped("", ""), strings.Repeat("\xff", 254), strings.Repeat("\x01", 255)}
	for typ := range 256 {
		for _, data := range datas {
			switch {
			case typ == 0:
				checkOne(t, typ, "", nil, api.Ctx{})
			case typ == 1:
				checkOne(t, typ, data, nil, api.Ctx{})
			case typ > 10:
				checkOne(t, typ, data, []api.Msg{{Kind: api.Opaque, Type: typ, Data: data}}, api.Ctx{})
			case len(data) < 2:
				checkWrong(t, typ, data, api.ErrShort)
			}
			checkFold(t, []api.Tlv{{Type: typ, At: 4, Data: data}})
			checkFold(t, []api.Tlv{{Type: 3, At: 4, Data: "\x00\x07"}, {Type: typ, At: 8, Data: data}, {Type: 99, At: 900, Data: "z"}})
		}
	}
}

// TLVs that no datagram has, since their data have more bytes than one may, or
// any at all.
func TestP23_1LongData(t *testing.T) {
	for _, n := range []int{256, 257, 1000, 70000} {
		data := strings.Repeat("a", n)
		checkAnswer(t, []api.Tlv{{Type: 11, Data: data}}, answer{told: []api.Msg{{Kind: api.Opaque, Type: 11, Data: data}}})
		checkAnswer(t, []api.Tlv{{Type: 1, Data: data}}, answer{})
		checkAnswer(t, []api.Tlv{{Data: data}}, answer{})
		padding := strings.Repeat("\x00", n)
		checkAnswer(t, []api.Tlv{{Type: 3, Data: "\x00\x07" + padding}}, answer{told: []api.Msg{{Kind: api.Ack, Nonce: 7}}})
		checkAnswer(t, []api.Tlv{{Type: 6, Data: "\x00\x00" + id + padding}}, answer{ctx: api.Ctx{Id: id}})
	}
}

// Each TLV with all its bytes, and with each count of bytes less.
func TestP23_1Fields(t *testing.T) {
	for _, s := range samples() {
		checkOne(t, s.typ, s.data, s.told, s.ctx)
		for n := range s.data {
			checkWrong(t, s.typ, s.data[:n], api.ErrShort)
		}
	}
}

// Each TLV with all its bytes, and all that may stand behind its fields.
func TestP23_1SubTlvs(t *testing.T) {
	for _, s := range samples() {
		for _, b := range behind {
			if b.known {
				checkOne(t, s.typ, s.data+b.bytes, withSubs(s.told, b.subs), s.ctx)
			} else {
				checkOne(t, s.typ, s.data+b.bytes, nil, s.hidden)
			}
			for n := range b.bytes {
				checkFold(t, []api.Tlv{{Type: s.typ, At: 5, Data: s.data + b.bytes[:n]}})
			}
		}
		for _, b := range wrongBehind {
			checkWrong(t, s.typ, s.data+b.bytes, b.err)
		}
	}
}

// TLVs that say nothing are no error, and change nothing for those about them.
func TestP23_1Silent(t *testing.T) {
	known, _, _ := split(hopeful, 4)
	for _, v := range silent() {
		checkOne(t, v.Type, v.Data, nil, api.Ctx{})
		v.At = 900
		for _, s := range samples() {
			w := api.Tlv{Type: s.typ, At: 9, Data: s.data}
			checkAnswer(t, []api.Tlv{v, w}, answer{told: s.told, ctx: s.ctx})
			checkAnswer(t, []api.Tlv{w, v}, answer{told: s.told, ctx: s.ctx})
		}
		for i := range known {
			checkAnswer(t, with(known, i+1, v), answer{ctx: folded(known).ctx})
		}
	}
}

// TLVs with each error that one may have, alone.
func TestP23_1Wrongs(t *testing.T) {
	for _, v := range wrongs() {
		checkWrong(t, v.typ, v.data, v.err)
	}
}

// Where all is known, requests, what stands alone, and what nobody knows are as
// where nothing is, and leave it known.
func TestP23_1OthersStandAlone(t *testing.T) {
	known, _, _ := split(hopeful, 4)
	all := folded(known).ctx
	if slices.Contains(all.Prefix[1:], "") || slices.Contains(all.Next[:], "") || all.Id == "" {
		t.Fatalf("what is known is only %s", sketch(all))
	}
	for _, s := range slices.Concat(fieldSamples(), requestSamples()) {
		for _, b := range behind {
			v := api.Tlv{Type: s.typ, At: 700, Data: s.data + b.bytes}
			want := answer{ctx: all}
			if b.known {
				want.told = withSubs(s.told, b.subs)
			}
			checkAnswer(t, with(known, len(known), v), want)
		}
	}
	for _, typ := range []int{11, 12, 128, 254, 255} {
		v := api.Tlv{Type: typ, At: 700, Data: "\x01\x00abcd"}
		checkAnswer(t, with(known, len(known), v), answer{told: []api.Msg{{Kind: api.Opaque, Type: typ, Data: v.Data}}, ctx: all})
	}
}

// What an Update tells by each of what may be known, said ahead of it, behind
// it, said anew, hidden, and not at all.
func TestP23_1RouterIds(t *testing.T) {
	const other = "12345678"
	update := api.Tlv{Type: 8, At: 99, Data: "\x01\x00\x18\x00" + numbers + "abc"}
	says := func(who string) api.Tlv { return api.Tlv{Type: 6, At: 77, Data: "\x00\x00" + who} }
	m := func(who string) api.Msg {
		return api.Msg{Kind: api.Update, Ae: 1, Prefix: "abc\x00", Plen: 24, Interval: 1, Seq: 2, Metric: 3, Id: who}
	}
	hidden := api.Tlv{Type: 6, At: 55, Data: "\x00\x00" + other + "\x80\x00"}
	check := func(known string, told []api.Msg, l ...api.Tlv) {
		t.Helper()
		checkAnswer(t, l, answer{told: told, ctx: api.Ctx{Id: known}})
		checkFold(t, l)
		checkMessages(t, wrapped(spelled(l), ""), told)
	}
	check("", nil, update)
	check("", nil, update, update)
	check("", nil, hidden, update)
	check(id, nil, update, says(id))
	check(id, []api.Msg{m(id)}, says(id), update)
	check(id, []api.Msg{m(id)}, update, says(id), update)
	check(id, []api.Msg{m(id), m(id)}, says(id), update, update)
	check(id, []api.Msg{m(id), m(id)}, says(id), update, hidden, update)
	check(other, []api.Msg{m(id)}, says(id), update, says(other))
	check(other, []api.Msg{m(id), m(other)}, says(id), update, says(other), update)
	check(other, []api.Msg{m(other)}, says(id), says(other), update)
	check(id, []api.Msg{m(id), m(other), m(id)}, says(id), update, says(other), update, says(id), update)
	// An Update that says it itself, told or hidden.
	own := "\x00\x00\x00\x00abc\x00"
	itself := api.Tlv{Type: 8, At: 44, Data: "\x01\x40\x18\x00" + numbers + "abc"}
	check(own, []api.Msg{m(own), m(own)}, itself, update)
	check(own, []api.Msg{m(id), m(own), m(own)}, says(id), update, itself, update)
	check(id, []api.Msg{m(own), m(id)}, itself, says(id), update)
	itself.Data += "\xff\x00"
	check(own, []api.Msg{m(own)}, itself, update)
	check(own, []api.Msg{m(id), m(own)}, says(id), update, itself, update)
}

func TestP23_1NextHops(t *testing.T) {
	name := api.Tlv{Type: 6, At: 4, Data: "\x00\x00" + id}
	hop := func(ae int, bytes string) api.Tlv {
		return api.Tlv{Type: 7, At: 16, Data: string([]byte{byte(ae), 0}) + bytes}
	}
	four := api.Tlv{Type: 8, At: 50, Data: "\x01\x00\x18\x00" + numbers + "abc"}
	six := api.Tlv{Type: 8, At: 60, Data: "\x02\x00\x18\x00" + numbers + "abc"}
	link := api.Tlv{Type: 8, At: 70, Data: "\x03\x00\x58\x00" + numbers + "abc"}
	m := func(ae int, next string) api.Msg {
		m := api.Msg{Kind: api.Update, Ae: ae, Plen: 24, Interval: 1, Seq: 2, Metric: 3, Id: id, Next: next}
		switch ae {
		case 1:
			m.Prefix = "abc\x00"
		case 2:
			m.Prefix = "abc" + strings.Repeat("\x00", 13)
		case 3:
			m.Prefix, m.Plen = head+"abc\x00\x00\x00\x00\x00", 88
		}
		return m
	}
	check := func(known [2]string, told []api.Msg, l ...api.Tlv) {
		t.Helper()
		l = with(l, 0, name)
		checkAnswer(t, l, answer{told: told, ctx: api.Ctx{Id: id, Next: known}})
		checkFold(t, l)
		checkMessages(t, wrapped(spelled(l), ""), told)
	}
	const long = "ABCDEFGHIJKLMNOP"
	check([2]string{}, []api.Msg{m(1, ""), m(2, ""), m(3, "")}, four, six, link)
	check([2]string{"wxyz"}, []api.Msg{m(1, "wxyz"), m(2, ""), m(3, "")}, hop(1, "wxyz"), four, six, link)
	check([2]string{"", long}, []api.Msg{m(1, ""), m(2, long), m(3, long)}, hop(2, long), four, six, link)
	check([2]string{"", head + id}, []api.Msg{m(1, ""), m(2, head+id), m(3, head+id)}, hop(3, id), four, six, link)
	check([2]string{"wxyz", long}, []api.Msg{m(1, "wxyz"), m(2, long)}, hop(1, "wxyz"), hop(2, long), four, six)
	check([2]string{"wxyz", long}, []api.Msg{m(1, ""), m(2, "")}, four, six, hop(1, "wxyz"), hop(2, long))
	check([2]string{"WXYZ"}, []api.Msg{m(1, "wxyz"), m(1, "WXYZ")}, hop(1, "wxyz"), four, hop(1, "WXYZ"), four)
	check([2]string{"", head + id}, []api.Msg{m(2, long), m(3, head+id)}, hop(2, long), six, hop(3, id), link)
	check([2]string{"wxyz"}, []api.Msg{m(1, "wxyz")}, hop(1, "wxyz"), hop(1, "WXYZ\x80\x00"), hop(0, ""), hop(4, "abcd"), four)
	// Where there is no way, nobody has it.
	far := api.Tlv{Type: 8, At: 80, Data: "\x01\x00\x18\x00" + far + "abc"}
	nobody := m(1, "")
	nobody.Metric, nobody.Id = api.Far, ""
	check([2]string{"wxyz"}, []api.Msg{nobody, m(1, "wxyz")}, hop(1, "wxyz"), far, four)
}

func TestP23_1DefaultPrefixes(t *testing.T) {
	whole := [4]string{"", "abc\x00", "abc" + strings.Repeat("\x00", 13), head + "abc\x00\x00\x00\x00\x00"}
	next := [4]string{"", "abx\x00", "abx" + strings.Repeat("\x00", 13), head + "abx\x00\x00\x00\x00\x00"}
	update := func(ae, flags, omitted int, bytes string) api.Tlv {
		plen := map[int]int{1: 24, 2: 24, 3: 88}[ae]
		return api.Tlv{Type: 8, At: 10*ae + omitted, Data: string([]byte{byte(ae), byte(flags), byte(plen), byte(omitted)}) + far + bytes}
	}
	m := func(ae int, prefix string) api.Msg {
		return api.Msg{Kind: api.Update, Ae: ae, Prefix: prefix, Plen: map[int]int{1: 24, 2: 24, 3: 88}[ae], Interval: 1, Seq: 2, Metric: api.Far}
	}
	for ae := 1; ae < 4; ae++ {
		known := func(a string) api.Ctx {
			var c api.Ctx
			c.Prefix[ae] = a
			return c
		}
		check := func(c api.Ctx, told []api.Msg, l ...api.Tlv) {
			t.Helper()
			checkAnswer(t, l, answer{told: told, ctx: c})
			checkFold(t, l)
			checkMessages(t, wrapped(spelled(l), ""), told)
		}
		fails := func(at int, l ...api.Tlv) {
			t.Helper()
			checkAnswer(t, l, answer{at: at, err: api.ErrCtx})
			checkFold(t, l)
			checkParse(t, wrapped(spelled(l), ""))
		}
		says, only, left := update(ae, 128, 0, "abc"), update(ae, 0, 0, "abc"), update(ae, 0, 2, "x")
		anew := update(ae, 128, 2, "x")
		check(known(whole[ae]), []api.Msg{m(ae, whole[ae]), m(ae, next[ae])}, says, left)
		check(known(whole[ae]), []api.Msg{m(ae, whole[ae]), m(ae, next[ae]), m(ae, whole[ae])}, says, left, update(ae, 0, 3, ""))
		check(known(next[ae]), []api.Msg{m(ae, whole[ae]), m(ae, next[ae]), m(ae, next[ae])}, says, anew, update(ae, 0, 3, ""))
		fails(left.At, left)
		fails(left.At, only, left)
		fails(left.At, left, says)
		fails(left.At, only, left, says, left)
		fails(anew.At, anew, says)
		for other := 1; other < 4; other++ {
			if other != ae {
				fails(left.At, update(other, 128, 0, "abc"), left)
				c := known(whole[ae])
				c.Prefix[other] = whole[other]
				check(c, []api.Msg{m(ae, whole[ae]), m(other, whole[other]), m(ae, next[ae])}, says, update(other, 128, 0, "abc"), left)
			}
		}
		// Though its message is hidden, what it says to those behind it is not.
		hidden := says
		hidden.Data += "\x80\x00"
		check(known(whole[ae]), []api.Msg{m(ae, next[ae])}, hidden, left)
		hidden = anew
		hidden.Data += "\x80\x00"
		check(known(next[ae]), []api.Msg{m(ae, whole[ae]), m(ae, next[ae])}, says, hidden, update(ae, 0, 3, ""))
	}
}

// goods are TLVs without an error, where nothing is known or anything, a message
// of each kind among them, and what is said to those behind.
func goods() []api.Tlv {
	known, _, _ := split(hopeful, 4)
	l := slices.Clone(known)
	for _, s := range samples() {
		l = append(l, api.Tlv{Type: s.typ, Data: s.data})
	}
	return placed(append(l, api.Tlv{}, api.Tlv{Type: 1, Data: "a"}, api.Tlv{Type: 99, Data: "z"}), 4)
}

// An error of the first TLV, of the last one, and of each one between, wherever
// it says that it begins.
func TestP23_1Errors(t *testing.T) {
	good := goods()
	if a := folded(good); a.err != api.OK || len(a.told) < 20 {
		t.Fatalf("the TLVs without an error have %s", sketch(a))
	}
	for _, v := range wrongs() {
		for i := range len(good) + 1 {
			// What a default prefix is needed for is no error behind one.
			if v.err == api.ErrCtx && i > 0 {
				continue
			}
			for _, at := range []int{0, 1, 900, -1, math.MaxInt, math.MinInt} {
				l := with(good, i, api.Tlv{Type: v.typ, At: at, Data: v.data})
				checkAnswer(t, l, answer{at: at, err: v.err})
			}
			checkFold(t, with(good, i, api.Tlv{Type: v.typ, At: 3, Data: v.data}))
		}
	}
}

// Of two at once the first one is told, also where it says that it begins behind
// the other one.
func TestP23_1TwoErrors(t *testing.T) {
	good, bad := goods()[:12], wrongs()
	for i, v := range bad {
		for j, w := range bad {
			// What a default prefix is needed for stands ahead of all.
			place := (i + j) % len(good)
			if v.err == api.ErrCtx {
				place = 0
			}
			for _, at := range [][2]int{{40, 80}, {80, 40}, {60, 60}, {-3, -5}} {
				l := with(good, place, api.Tlv{Type: v.typ, At: at[0], Data: v.data})
				want := answer{at: at[0], err: v.err}
				checkAnswer(t, with(l, place+1, api.Tlv{Type: w.typ, At: at[1], Data: w.data}), want)
				checkAnswer(t, with(l, len(l), api.Tlv{Type: w.typ, At: at[1], Data: w.data}), want)
			}
		}
	}
}

// Where there is no error, no place is told, wherever the TLVs say that they
// begin: it changes nothing else either.
func TestP23_1PlacesDontMatter(t *testing.T) {
	good := goods()
	want := folded(good)
	for _, at := range []int{0, 1, 7, 65535, -1, math.MaxInt, math.MinInt} {
		l := slices.Clone(good)
		for i := range l {
			l[i].At = at
		}
		checkAnswer(t, l, want)
	}
	// Places that go down.
	l := slices.Clone(good)
	for i := range l {
		l[i].At = -i
	}
	checkAnswer(t, l, want)
}
