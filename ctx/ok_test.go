package ctx

import (
	"math"
	"testing"

	"roadbook/api"
)

func TestP22_1OkExamples(t *testing.T) {
	checkOk(t, api.Ctx{}, true)
	checkOk(t, all, true)
	checkOk(t, api.Ctx{Prefix: [4]string{"", "\x0a\x01\x02\x00"}, Id: "abcdefgh"}, true)
	checkOk(t, api.Ctx{Prefix: [4]string{"", "", linkAddr, linkAddr}, Next: [2]string{"", ipv6Next}}, true)
	checkOk(t, api.Ctx{Prefix: [4]string{"", "", "", ipv6Addr}}, false)
	checkOk(t, api.Ctx{Prefix: [4]string{ipv4Addr}}, false)
	checkOk(t, api.Ctx{Prefix: [4]string{"", ipv6Addr}}, false)
	checkOk(t, api.Ctx{Prefix: [4]string{"", "", ipv4Addr}}, false)
	checkOk(t, api.Ctx{Next: [2]string{ipv6Next}}, false)
	checkOk(t, api.Ctx{Next: [2]string{"", ipv4Next}}, false)
	checkOk(t, api.Ctx{Id: id[:7]}, false)
	checkOk(t, api.Ctx{Id: id + "I"}, false)
}

// Each place has texts of all sizes, link-local ones among them, beside others
// that are empty, and beside others that are there.
func TestP22_1OkPlaces(t *testing.T) {
	for _, c := range contexts() {
		for _, a := range addresses() {
			link := len(a) == 16 && a[:8] == head
			places := []bool{a == "", a == "" || len(a) == 4, a == "" || len(a) == 16, a == "" || link}
			for ae, want := range places {
				d := c
				d.Prefix[ae] = a
				checkOk(t, d, want)
			}
			for family, want := range places[1:3] {
				d := c
				d.Next[family] = a
				checkOk(t, d, want)
			}
			d := c
			d.Id = a
			checkOk(t, d, a == "" || len(a) == 8)
		}
	}
}

// One place that may not be is enough, wherever it stands, beside others that
// may not be, too.
func TestP22_1OkSeveral(t *testing.T) {
	texts := []string{"", "abc", ipv4Addr, id, ipv6Addr, linkAddr}
	at := make([]string, 7)
	var fill func(i int)
	fill = func(i int) {
		if i < len(at) {
			for _, a := range texts {
				at[i] = a
				fill(i + 1)
			}
			return
		}
		c := api.Ctx{Prefix: [4]string(at), Next: [2]string(at[4:]), Id: at[6]}
		checkOk(t, c, right(c))
	}
	fill(0)
}

// The head of a link-local address counts up to its last bit.
func TestP22_1OkLink(t *testing.T) {
	for bit := range 128 {
		a := wrongAt(linkAddr, bit)
		checkOk(t, api.Ctx{Prefix: [4]string{"", "", "", a}}, bit >= 64)
		checkOk(t, api.Ctx{Prefix: [4]string{"", "", a}, Next: [2]string{"", a}}, true)
	}
}

func TestP22_1Family(t *testing.T) {
	want := map[int]int{1: 0, 2: 1, 3: 1}
	check := func(ae int) {
		family, is := want[ae]
		if !is {
			family = -1
		}
		if got := Family(ae); got != family {
			t.Errorf("Family(%d) = %d; want %d", ae, got, family)
		}
	}
	for ae := -300; ae <= 300; ae++ {
		check(ae)
	}
	for _, ae := range otherAes {
		check(ae)
	}
	for _, ae := range []int{math.MaxInt, math.MinInt, 1<<32 + 1, 1<<32 + 2, -1<<32 + 3, 1<<16 + 1, 1<<8 + 2} {
		check(ae)
	}
}
