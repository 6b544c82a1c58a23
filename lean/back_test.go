package lean

import (
	"math/rand"
	"slices"
	"strings"
	"testing"

	"roadbook/api"
	"roadbook/intake"
)

// Messages one behind the other, from nothing, each where what those ahead of it
// said is known: the datagram of all of them tells just these.
func TestP24_2Walks(t *testing.T) {
	r := rand.New(rand.NewSource(1))
	errs, saved := map[api.Errno]int{}, 0
	for range 600 {
		var c api.Ctx
		var l []api.Msg
		body := ""
		for range r.Intn(30) {
			m := someMessage(r)
			checkPut(t, c, m)
			checkPlain(t, m)
			bytes, behind, err := Put(c, m)
			errs[err]++
			if err != api.OK {
				continue
			}
			whole, _ := Plain(m)
			saved += len(whole) - len(bytes)
			l, body, c = append(l, m), body+bytes, behind
		}
		told, at, err := intake.Parse(wrapped(body))
		if err != api.OK || !slices.EqualFunc(told, l, same) {
			t.Errorf("%q tells %s, error %d at %d; want %s", body, sketch(told), err, at, sketch(l))
		}
		got, left, ok := taken(api.Ctx{}, body)
		if !ok || left != c || !slices.EqualFunc(got, l, same) {
			t.Errorf("%q leaves behind it %s, %t; want %s", body, sketch(left), ok, sketch(c))
		}
	}
	if errs[api.OK] < 5000 || errs[api.ErrCtx] < 300 || saved < 20000 {
		t.Errorf("the errors are %v, and %d bytes were left out", errs, saved)
	}
}

// The same message once more has one TLV alone, and all of its prefix is left
// out.
func TestP24_2Twice(t *testing.T) {
	for _, m := range goods() {
		for _, c := range append(contexts(), lone()...) {
			_, behind, err := Put(c, m)
			if err != api.OK {
				continue
			}
			want := spelledAlone(m)
			if m.Kind == api.Update {
				want = spelledUpdate(m, len(spelledPrefix(m)))
			}
			checkBytes(t, behind, m, want, behind)
		}
	}
}

// Each message behind each of a few others.
func TestP24_2Pairs(t *testing.T) {
	for _, first := range few() {
		for _, c := range lone() {
			_, behind, err := Put(c, first)
			if err != api.OK {
				continue
			}
			for _, second := range few() {
				checkPut(t, behind, second)
			}
		}
	}
}

// The more is known of what a message says, the fewer bytes it has; never are
// they more than the plain ones.
func TestP24_2NeverMore(t *testing.T) {
	for _, m := range updates() {
		plain, _ := Plain(m)
		for _, c := range contexts() {
			bytes, _, err := Put(c, m)
			if err != api.OK {
				continue
			}
			if len(bytes) > len(plain) {
				t.Errorf("%q are more bytes than %q", bytes, plain)
			}
			if m.Ae > 0 && c.Prefix[m.Ae] != "" && m.Plen > lengths[m.Ae][0]+7 && len(bytes) >= len(plain) {
				t.Errorf("%q are as many bytes as %q, though %s is known", bytes, plain, sketch(c))
			}
		}
	}
}

// What is handed in stays as it was, the spare room of its lists, too.
func TestP24_2ChangesNothing(t *testing.T) {
	for _, m := range few() {
		for _, l := range slices.Concat(lists(), wrongLists()) {
			room := make([]api.Sub, len(l)+3)
			for i := range room {
				room[i] = api.Sub{Type: 1000 + i, Data: "spare"}
			}
			copy(room, l)
			dests := []api.Dest{{Addr: "abcd", Seq: 8}, {Addr: "spare", Seq: 9}}
			subsBefore, destsBefore := slices.Clone(room), slices.Clone(dests)
			v := with(m, "Subs", room[:len(l)])
			w := with(v, "List", dests[:1])
			for _, c := range lone() {
				before := c
				for _, m := range []api.Msg{v, w} {
					Right(m)
					Put(c, m)
					Plain(m)
				}
				if c != before {
					t.Errorf("%s became %s", sketch(before), sketch(c))
				}
			}
			if !slices.Equal(room, subsBefore) || !slices.Equal(dests, destsBefore) || !same(v, with(m, "Subs", subsBefore[:len(l)])) {
				t.Errorf("%s, or the spare room of its lists, became %s and %s", sketch(m), sketch(room), sketch(dests))
			}
		}
	}
}

// A call hangs on its arguments alone, not on what was written ahead; what was
// answered stays as it was, whatever becomes of the Subs that were handed in.
func TestP24_2Again(t *testing.T) {
	subs := []api.Sub{{Type: 2, Data: "a"}, {Type: 3}}
	m := with(with(wayTo(1, "\x0a\x01\x07\x00", 24), "Next", ipv4Next), "Subs", subs)
	want := spelled(api.Ctx{}, m)
	for range 3 {
		bytes, behind, err := Put(api.Ctx{}, m)
		plain, _ := Plain(m)
		subs[0] = api.Sub{Type: 99, Data: "z"}
		if bytes != want.bytes || plain != want.bytes || behind != want.ctx || err != api.OK {
			t.Errorf("Put = %q, %s, error %d, and Plain = %q; want %s", bytes, sketch(behind), err, plain, sketch(want))
		}
		subs[0] = api.Sub{Type: 2, Data: "a"}
		checkPut(t, behind, m)
		checkError(t, behind, with(m, "Next", ""), api.ErrCtx)
		checkPut(t, api.Ctx{}, with(m, "Next", ""))
		checkError(t, behind, api.Msg{}, api.ErrArg)
	}
}

// All calls end, whatever they are asked for, also where nothing is promised of
// what is known.
func TestP24_2Ends(t *testing.T) {
	for _, n := range []int{0, 1, 3, 4, 5, 7, 8, 9, 15, 16, 17, 300} {
		for _, fill := range []string{"\x00", "\xff", "\xa1\xa2\xa3\xa5", linkAddr, ipv6Addr} {
			a := strings.Repeat(fill, n+1)[:n]
			c := api.Ctx{Prefix: [4]string{a, a, a, a}, Next: [2]string{a, a}, Id: a}
			for _, m := range goods() {
				Put(c, m)
				Put(c, api.Msg{Kind: m.Kind, Ae: m.Ae, Prefix: a, Plen: m.Plen, Id: a, Next: a, Addr: a, Data: a})
			}
		}
	}
}
