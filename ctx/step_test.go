package ctx

import (
	"testing"

	"roadbook/api"
)

func TestP22_1StepExamples(t *testing.T) {
	c := api.Ctx{Prefix: [4]string{"", "\x0a\x01\x02\x00"}}
	d := c
	d.Id = "12345678"
	checkAnswer(t, c, 6, "\x00\x0012345678", answer{ctx: d})
	checkAnswer(t, all, 6, "\xff\xff\x00\x00\x00\x00\x00\x00\x00\x00", answer{ctx: with(all, "Id", "\x00\x00\x00\x00\x00\x00\x00\x00")})
	checkError(t, c, 6, "\x00\x001234567", api.ErrShort)
	checkNothing(t, c, 6, "\x00\x0012345678\x80\x00")
	checkAnswer(t, c, 7, "\x01\x00abcd", answer{ctx: with(c, "Next", [2]string{"abcd", ""})})
	checkAnswer(t, c, 7, "\x02\xff0123456789abcdef", answer{ctx: with(c, "Next", [2]string{"", "0123456789abcdef"})})
	checkAnswer(t, c, 7, "\x03\x00abcdefgh", answer{ctx: with(c, "Next", [2]string{"", head + "abcdefgh"})})
	checkAnswer(t, all, 7, "\x01\x00abcd", answer{ctx: with(all, "Next", [2]string{"abcd", linkNext})})
	checkAnswer(t, all, 7, "\x02\x000123456789abcdef", answer{ctx: with(all, "Next", [2]string{ipv4Next, "0123456789abcdef"})})
	checkAnswer(t, all, 7, "\x03\x00abcdefgh", answer{ctx: with(all, "Next", [2]string{ipv4Next, head + "abcdefgh"})})
	checkError(t, c, 7, "\x01", api.ErrShort)
	checkError(t, c, 7, "\x01\x00abc", api.ErrShort)
	checkNothing(t, c, 7, "\x00\x00")
	checkNothing(t, c, 7, "\x04\x00")
	checkNothing(t, c, 7, "\x01\x00abcd\x80\x00")
}

// A router-id of each count of bytes, and all that stands behind one.
func TestP22_1RouterId(t *testing.T) {
	const data = "\x00\x0012345678"
	for _, c := range contexts() {
		for n := range data {
			checkError(t, c, 6, data[:n], api.ErrShort)
		}
		for _, b := range behind {
			checkStep(t, c, 6, data+b.bytes)
			if b.known {
				checkAnswer(t, c, 6, data+b.bytes, answer{ctx: with(c, "Id", "12345678")})
			} else {
				checkNothing(t, c, 6, data+b.bytes)
			}
		}
		for _, b := range wrongBehind {
			checkError(t, c, 6, data+b.bytes, b.err)
		}
	}
	for bit := range 8 * len(data) {
		s := wrongAt(data, bit)
		checkAnswer(t, all, 6, s, answer{ctx: with(all, "Id", s[2:])})
	}
}

// A next hop of each encoding that a byte has, and of each count of bytes up to
// one behind an address.
func TestP22_1NextHop(t *testing.T) {
	const bytes = "\x91\x92\x93\x94\x95\x96\x97\x98\x99\x9a\x9b\x9c\x9d\x9e\x9f\x90"
	sizes := map[int]int{1: 4, 2: 16, 3: 8}
	checkError(t, all, 7, "", api.ErrShort)
	for _, c := range contexts() {
		for _, ae := range []int{0, 1, 2, 3, 4, 5, 16, 127, 128, 254, 255} {
			first := string([]byte{byte(ae)})
			checkError(t, c, 7, first, api.ErrShort)
			size, is := sizes[ae]
			for n := range bytes {
				data := first + "\x07" + bytes[:n]
				switch {
				case !is:
					checkNothing(t, c, 7, data)
				case n < size:
					checkError(t, c, 7, data, api.ErrShort)
				}
			}
			if is {
				checkNext(t, c, ae, bytes[:size])
			}
		}
	}
}

// checkNext holds a next hop, all of whose bytes are there, to be known, unless
// what stands behind it hides it.
func checkNext(t *testing.T, c api.Ctx, ae int, a string) {
	t.Helper()
	data := string([]byte{byte(ae), 0}) + a
	want := c
	switch ae {
	case 1:
		want.Next[0] = a
	case 2:
		want.Next[1] = a
	case 3:
		want.Next[1] = head + a
	}
	for _, b := range behind {
		checkStep(t, c, 7, data+b.bytes)
		if b.known {
			checkAnswer(t, c, 7, data+b.bytes, answer{ctx: want})
		} else {
			checkNothing(t, c, 7, data+b.bytes)
		}
	}
	for _, b := range wrongBehind {
		checkError(t, c, 7, data+b.bytes, b.err)
	}
}

// Where there is no such encoding, what stands behind the first two bytes isn't
// looked at; nor is the second one, ever.
func TestP22_1NextHopOther(t *testing.T) {
	for ae := range 256 {
		for second := range 256 {
			data := string([]byte{byte(ae), byte(second)})
			if ae > 0 && ae < 4 {
				checkError(t, all, 7, data, api.ErrShort)
				checkStep(t, all, 7, data+ipv6Addr)
				checkStep(t, all, 7, data+"\x00\x00\x00\x00\x00\x00\x00\x00\x00\x00\x00\x00\x00\x00\x00\x00")
				continue
			}
			checkNothing(t, all, 7, data)
			checkNothing(t, all, 7, data+"\x02")
			checkNothing(t, all, 7, data+"\x80\x00")
		}
		for _, b := range wrongBehind {
			data := string([]byte{byte(ae), 0})
			if ae == 0 || ae > 3 {
				checkNothing(t, all, 7, data+b.bytes)
			}
		}
	}
}

// An address that was link-local in the long encoding is the same one in the
// short one.
func TestP22_1NextHopAlike(t *testing.T) {
	c, _, _ := Step(api.Ctx{}, api.Tlv{Type: 7, Data: "\x02\x00" + linkNext})
	d, _, _ := Step(api.Ctx{}, api.Tlv{Type: 7, Data: "\x03\x00" + linkNext[8:]})
	if c != d || c.Next != [2]string{"", linkNext} {
		t.Errorf("%s isn't %s", sketch(c), sketch(d))
	}
}
