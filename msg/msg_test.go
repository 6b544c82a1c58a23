package msg

import (
	"math"
	"reflect"
	"strings"
	"testing"

	"roadbook/api"
)

// fieldsOf has the fields of each kind as the chapter's table has them.
var fieldsOf = []string{
	1:  "Cmd, Ver, Auth, Family, Tag, Prefix, Plen, Next, Metric",
	2:  "Cmd, Tag, Prefix, Plen, Next, Metric",
	3:  "Flags, Hops, Nonce, Addr, Seq, Orig, Seq2, Subs",
	4:  "Flags, Plen, Hops, Addr, Seq, Orig, Interval, Subs",
	5:  "Flags, List, Subs",
	6:  "Subs",
	7:  "Nonce, Interval, Subs",
	8:  "Nonce, Subs",
	9:  "Flags, Seq, Interval, Subs",
	10: "Ae, Cost, Interval, Addr, Subs",
	11: "Ae, Prefix, Plen, Interval, Seq, Metric, Id, Next, Subs",
	12: "Ae, Prefix, Plen, Subs",
	13: "Ae, Prefix, Plen, Seq, Hops, Id, Subs",
	14: "Type, Data",
}

// farNumbers are numbers that a field may hold, none of them 0.
var farNumbers = []int{1, -1, 2, 15, 16, 17, 255, 256, 65535, 65536, math.MaxInt32, math.MinInt32, math.MaxInt, math.MinInt, 1 << 32, 1 << 62}

// farTexts are texts that a field may hold, none of them empty.
var farTexts = []string{"\x00", "a", "\xff", "\x00\x00\x00\x00", "\x0a\x01\x02\x03", strings.Repeat("\x00", 16), strings.Repeat("z", 70000)}

var farDests = [][]api.Dest{{{}}, {{Addr: "\x0a\x00\x00\x01", Seq: 5}}, {{Seq: 1}, {}}, make([]api.Dest, 300)}

var farSubs = [][]api.Sub{{{}}, {{Type: 2, Data: "abc"}}, {{Type: -1}, {}}, {{Data: "\x00"}}, make([]api.Sub, 300)}

// names are the names of the fields of a message.
func names() []string {
	var l []string
	for i := range reflect.TypeFor[api.Msg]().NumField() {
		l = append(l, reflect.TypeFor[api.Msg]().Field(i).Name)
	}
	return l
}

// values are values that the field of that name may hold, none of them 0 or
// empty.
func values(t *testing.T, name string) []reflect.Value {
	t.Helper()
	var from reflect.Value
	switch f, _ := reflect.TypeFor[api.Msg]().FieldByName(name); f.Type {
	case reflect.TypeFor[int]():
		from = reflect.ValueOf(farNumbers)
	case reflect.TypeFor[string]():
		from = reflect.ValueOf(farTexts)
	case reflect.TypeFor[[]api.Dest]():
		from = reflect.ValueOf(farDests)
	case reflect.TypeFor[[]api.Sub]():
		from = reflect.ValueOf(farSubs)
	default:
		t.Fatalf("no values for the field %s", name)
	}
	var l []reflect.Value
	for i := range from.Len() {
		l = append(l, from.Index(i))
	}
	return l
}

// with is m with that value in the field of that name.
func with(m api.Msg, name string, v reflect.Value) api.Msg {
	reflect.ValueOf(&m).Elem().FieldByName(name).Set(v)
	return m
}

// full is a message with all fields set, each to something else.
func full() api.Msg {
	return api.Msg{
		Kind: 101, Cmd: 102, Ver: 103, Auth: "auth", Family: 104, Ae: 105, Prefix: "prefix", Plen: 106,
		Tag: 107, Next: "next", Metric: 108, Id: "id", Seq: 109, Seq2: 110, Interval: 111, Flags: 112,
		Hops: 113, Nonce: 114, Cost: 115, Addr: "addr", Orig: "orig", Type: 116, Data: "data",
		List: []api.Dest{{Addr: "one", Seq: 1}, {Addr: "two", Seq: 2}},
		Subs: []api.Sub{{Type: 3, Data: "three"}, {Type: 4, Data: "four"}},
	}
}

// twin is m in memory of its own: no text and no list is shared.
func twin(m api.Msg) api.Msg {
	v := reflect.ValueOf(&m).Elem()
	for i := range v.NumField() {
		if v.Field(i).Kind() == reflect.String {
			v.Field(i).SetString(strings.Clone(v.Field(i).String()))
		}
	}
	var dests []api.Dest
	for _, d := range m.List {
		dests = append(dests, api.Dest{Addr: strings.Clone(d.Addr), Seq: d.Seq})
	}
	var subs []api.Sub
	for _, s := range m.Subs {
		subs = append(subs, api.Sub{Type: s.Type, Data: strings.Clone(s.Data)})
	}
	m.List, m.Subs = dests, subs
	return m
}

func checkSame(t *testing.T, what string, a, b api.Msg, want bool) {
	t.Helper()
	if Same(a, b) != want || Same(b, a) != want {
		t.Errorf("Same, %s: got %v and %v, want %v", what, Same(a, b), Same(b, a), want)
	}
}

func checkSameAll(t *testing.T, what string, a, b []api.Msg, want bool) {
	t.Helper()
	if SameAll(a, b) != want || SameAll(b, a) != want {
		t.Errorf("SameAll, %s: got %v and %v, want %v", what, SameAll(a, b), SameAll(b, a), want)
	}
}

func checkBare(t *testing.T, what string, m api.Msg, want bool) {
	t.Helper()
	if got := Bare(m); got != want {
		t.Errorf("Bare, %s, Kind %d: got %v, want %v", what, m.Kind, got, want)
	}
}

func checkBytes(t *testing.T, what string, l []api.Sub, want int) {
	t.Helper()
	if got := Bytes(l); got != want {
		t.Errorf("Bytes, %s: got %d, want %d", what, got, want)
	}
}

func checkSubs(t *testing.T, what string, l []api.Sub, low, high int, want bool) {
	t.Helper()
	if got := Subs(l, low, high); got != want {
		t.Errorf("Subs, %s, from %d to %d: got %v, want %v", what, low, high, got, want)
	}
}

// TestP7_2Itself: a message is the same as itself, and as one that holds the
// same elsewhere.
func TestP7_2Itself(t *testing.T) {
	for _, m := range []api.Msg{{}, full(), {Kind: api.Ack, Nonce: 7}, {Kind: math.MinInt, Data: "\x00"}} {
		checkSame(t, "itself", m, m, true)
		checkSame(t, "twin", m, twin(m), true)
	}
	for _, name := range names() {
		for _, v := range values(t, name) {
			m := with(api.Msg{}, name, v)
			checkSame(t, name+" set, twin", m, twin(m), true)
			m = with(full(), name, v)
			checkSame(t, name+" of a full one set, twin", m, twin(m), true)
		}
	}
}

// TestP7_2OneField: with any one field changed a message isn't the same.
func TestP7_2OneField(t *testing.T) {
	for _, name := range names() {
		vs := values(t, name)
		for i, v := range vs {
			checkSame(t, name+" set", api.Msg{}, with(api.Msg{}, name, v), false)
			checkSame(t, name+" changed", full(), with(full(), name, v), false)
			for _, w := range vs[i+1:] {
				checkSame(t, name+" another", with(full(), name, v), with(full(), name, w), false)
			}
		}
		checkSame(t, name+" taken away", full(), with(full(), name, reflect.Zero(vs[0].Type())), false)
	}
}

// TestP7_1SameSwapped: what one field holds isn't taken for what another does.
func TestP7_1SameSwapped(t *testing.T) {
	l := names()
	for i, a := range l {
		for _, b := range l[i+1:] {
			va, vb := values(t, a)[0], values(t, b)[0]
			checkSame(t, a+" or "+b, with(api.Msg{}, a, va), with(api.Msg{}, b, vb), false)
			if va.Type() == vb.Type() {
				one := with(with(api.Msg{}, a, va), b, values(t, b)[1])
				other := with(with(api.Msg{}, a, values(t, a)[1]), b, va)
				checkSame(t, a+" and "+b+" swapped", one, other, false)
			}
		}
	}
}

// TestP7_1SameTexts: texts are compared byte by byte.
func TestP7_1SameTexts(t *testing.T) {
	pairs := [][2]string{{"abc", "abd"}, {"abc", "bbc"}, {"abc", "ab"}, {"abc", "abc\x00"}, {"\xff", "\xfe"}, {"\xff", "\xc3\xbf"}, {"a", "A"}}
	for _, name := range []string{"Auth", "Prefix", "Next", "Id", "Addr", "Orig", "Data"} {
		for _, p := range pairs {
			one := with(full(), name, reflect.ValueOf(p[0]))
			checkSame(t, name, one, with(full(), name, reflect.ValueOf(p[1])), false)
		}
	}
}

// TestP7_1SameLists: lists that differ in one place, in order or in how many
// they hold; nil and empty hold nothing both.
func TestP7_1SameLists(t *testing.T) {
	a, b, c := api.Dest{Addr: "aaaa", Seq: 1}, api.Dest{Addr: "bbbb", Seq: 2}, api.Dest{Addr: "cccc", Seq: 3}
	base := api.Msg{Kind: api.Rerr, List: []api.Dest{a, b, c}}
	for _, l := range [][]api.Dest{
		nil, {}, {a}, {a, b}, {b, c}, {a, c}, {a, b, c, c}, {a, b, c, {}}, {{}, a, b, c}, {c, b, a}, {b, a, c}, {a, c, b},
		{{Addr: "aaab", Seq: 1}, b, c}, {a, {Addr: "bbbb", Seq: 3}, c}, {a, b, {Addr: "ccc", Seq: 3}}, {a, b, {Addr: "cccc", Seq: -3}},
	} {
		checkSame(t, "List", base, api.Msg{Kind: api.Rerr, List: l}, false)
	}
	d, e, f := api.Sub{Type: 1, Data: "aaaa"}, api.Sub{Type: 2, Data: "bbbb"}, api.Sub{Type: 3, Data: "cccc"}
	base = api.Msg{Kind: api.Ack, Subs: []api.Sub{d, e, f}}
	for _, l := range [][]api.Sub{
		nil, {}, {d}, {d, e}, {e, f}, {d, f}, {d, e, f, f}, {d, e, f, {}}, {{}, d, e, f}, {f, e, d}, {e, d, f}, {d, f, e},
		{{Type: 1, Data: "aaab"}, e, f}, {d, {Type: 3, Data: "bbbb"}, f}, {d, e, {Type: 3, Data: "ccc"}}, {d, e, {Type: -3, Data: "cccc"}},
	} {
		checkSame(t, "Subs", base, api.Msg{Kind: api.Ack, Subs: l}, false)
	}
	checkSame(t, "nil and empty", api.Msg{}, api.Msg{List: []api.Dest{}, Subs: []api.Sub{}}, true)
	checkSame(t, "empty with spare room", api.Msg{Subs: make([]api.Sub, 0, 3)}, api.Msg{Subs: make([]api.Sub, 2)[:0]}, true)
	checkSame(t, "spare room", api.Msg{Subs: []api.Sub{d, e, f}[:2]}, api.Msg{Subs: []api.Sub{d, e}}, true)
	checkSame(t, "one that is 0", api.Msg{}, api.Msg{List: []api.Dest{{}}}, false)
	checkSame(t, "one that is 0", api.Msg{}, api.Msg{Subs: []api.Sub{{}}}, false)
	checkSame(t, "a bound within", api.Msg{Subs: []api.Sub{{Data: "ab"}, {Data: "c"}}}, api.Msg{Subs: []api.Sub{{Data: "a"}, {Data: "bc"}}}, false)
}

// TestP7_1SameAll: lists of messages of no, one and many.
func TestP7_1SameAll(t *testing.T) {
	checkSameAll(t, "nil and nil", nil, nil, true)
	checkSameAll(t, "nil and empty", nil, []api.Msg{}, true)
	checkSameAll(t, "none and one", nil, []api.Msg{{}}, false)
	checkSameAll(t, "one", []api.Msg{full()}, []api.Msg{twin(full())}, true)
	checkSameAll(t, "one, another", []api.Msg{full()}, []api.Msg{{}}, false)
	for _, n := range []int{2, 3, 7, 100} {
		many := func() []api.Msg {
			var l []api.Msg
			for i := range n {
				m := twin(full())
				m.Nonce = i
				l = append(l, m)
			}
			return l
		}
		a := many()
		checkSameAll(t, "many", a, many(), true)
		checkSameAll(t, "one fewer", a, many()[:n-1], false)
		checkSameAll(t, "one fewer at the front", a, many()[1:], false)
		checkSameAll(t, "one more", a, append(many(), api.Msg{}), false)
		checkSameAll(t, "none", a, nil, false)
		for _, at := range []int{0, n / 2, n - 1} {
			b := many()
			b[at].Subs[1].Data = "fou"
			checkSameAll(t, "another Sub", a, b, false)
			b = many()
			b[at].List[0].Seq = 9
			checkSameAll(t, "another Dest", a, b, false)
			b = many()
			b[at].Kind++
			checkSameAll(t, "another Kind", a, b, false)
		}
		b := many()
		b[0], b[n-1] = b[n-1], b[0]
		checkSameAll(t, "another order", a, b, false)
	}
}

// TestP7_1BareKinds: each kind with its own fields set, and with each other one.
func TestP7_1BareKinds(t *testing.T) {
	if len(fieldsOf)-1 != api.LastOfKind {
		t.Fatalf("%d kinds, want %d", len(fieldsOf)-1, api.LastOfKind)
	}
	for kind := 1; kind <= api.LastOfKind; kind++ {
		plain := api.Msg{Kind: kind}
		checkBare(t, "nothing set", plain, true)
		checkBare(t, "lists empty", api.Msg{Kind: kind, List: []api.Dest{}, Subs: []api.Sub{}}, true)
		has := map[string]bool{"Kind": true}
		all := plain
		for _, name := range strings.Split(fieldsOf[kind], ", ") {
			has[name] = true
			for _, v := range values(t, name) {
				checkBare(t, name+" set", with(plain, name, v), true)
				all = with(all, name, v)
			}
		}
		checkBare(t, "all of its own set", all, true)
		for _, name := range names() {
			if has[name] {
				continue
			}
			for _, v := range values(t, name) {
				checkBare(t, name+" set, not its own", with(plain, name, v), false)
				checkBare(t, name+" set beside all of its own", with(all, name, v), false)
			}
		}
	}
}

// TestP7_1BareNoKind: a kind that there isn't is never bare.
func TestP7_1BareNoKind(t *testing.T) {
	for _, kind := range []int{0, -1, api.LastOfKind + 1, 16, 255, 256, 1 + 256, 1 + 1<<32, -14, math.MaxInt, math.MinInt} {
		checkBare(t, "nothing set", api.Msg{Kind: kind}, false)
		for _, name := range names() {
			if name == "Kind" {
				continue
			}
			checkBare(t, name+" set", with(api.Msg{Kind: kind}, name, values(t, name)[0]), false)
		}
	}
	checkBare(t, "the chapter's example", api.Msg{Kind: api.Ack, Seq: 1}, false)
	checkBare(t, "all set", full(), false)
}

// TestP7_1Bytes: two bytes for each, and those of its Data.
func TestP7_1Bytes(t *testing.T) {
	checkBytes(t, "nil", nil, 0)
	checkBytes(t, "empty", []api.Sub{}, 0)
	var many []api.Sub
	sum := 0
	for _, n := range []int{0, 1, 2, 3, 198, 199, 254, 255, 256, 257, 65535, 1 << 20} {
		s := api.Sub{Type: n - 3, Data: strings.Repeat("\x00", n)}
		checkBytes(t, "one", []api.Sub{s}, 2+n)
		many = append(many, s)
		sum += 2 + n
		checkBytes(t, "many", many, sum)
	}
	checkBytes(t, "a thousand of no Data", make([]api.Sub, 1000), 2000)
	checkBytes(t, "runes", []api.Sub{{Data: "\u00e9\u20ac"}, {Data: "\xff"}}, 2+5+2+1)
}

// TestP7_1SubsTypes: each Type from low to high, both among them.
func TestP7_1SubsTypes(t *testing.T) {
	ends := []int{math.MinInt, math.MinInt + 1, -2, -1, 0, 1, 2, 126, 127, 128, 129, 254, 255, 256, math.MaxInt - 1, math.MaxInt}
	for _, low := range ends {
		for _, high := range ends {
			checkSubs(t, "nil", nil, low, high, true)
			checkSubs(t, "empty", []api.Sub{}, low, high, true)
			for _, kind := range ends {
				want := low <= kind && kind <= high
				s := api.Sub{Type: kind, Data: "abc"}
				checkSubs(t, "one", []api.Sub{s}, low, high, want)
				if low > high {
					continue
				}
				l, h := api.Sub{Type: low}, api.Sub{Type: high}
				checkSubs(t, "at the front", []api.Sub{s, l, h}, low, high, want)
				checkSubs(t, "within", []api.Sub{h, s, l}, low, high, want)
				checkSubs(t, "at the end", []api.Sub{l, h, s}, low, high, want)
			}
		}
	}
}

// TestP7_1SubsData: each Data has at most 255 bytes.
func TestP7_1SubsData(t *testing.T) {
	for _, n := range []int{0, 1, 2, 254, 255, 256, 257, 511, 512, 65536} {
		s := api.Sub{Type: 5, Data: strings.Repeat("\xff", n)}
		x := api.Sub{Type: 5, Data: strings.Repeat("x", 255)}
		checkSubs(t, "one", []api.Sub{s}, 5, 5, n <= 255)
		checkSubs(t, "at the front", []api.Sub{s, x, {Type: 5}}, 5, 5, n <= 255)
		checkSubs(t, "within", []api.Sub{x, s, {Type: 5}}, 5, 5, n <= 255)
		checkSubs(t, "at the end", []api.Sub{{Type: 5}, x, s}, 5, 5, n <= 255)
		checkSubs(t, "of another Type", []api.Sub{s}, 6, 7, false)
	}
	x := api.Sub{Data: strings.Repeat("\u20ac", 85)}
	checkSubs(t, "85 runes of 3 bytes", []api.Sub{x}, 0, 0, true)
	x.Data += "\u20ac"
	checkSubs(t, "86 runes of 3 bytes", []api.Sub{x}, 0, 0, false)
	checkSubs(t, "more than 255 in all", make([]api.Sub, 300), 0, 0, true)
}

// TestP7_1Kept: what is handed in isn't changed, its spare room neither.
func TestP7_1Kept(t *testing.T) {
	dests := append(make([]api.Dest, 0, 4), api.Dest{Addr: "one", Seq: 1})
	subs := append(make([]api.Sub, 0, 4), api.Sub{Type: 3, Data: "three"})
	m := api.Msg{Kind: api.Rerr, Flags: 3, List: dests, Subs: subs}
	list := append(make([]api.Msg, 0, 3), m)
	Same(m, m)
	SameAll(list, list)
	Bare(m)
	Bytes(subs)
	Subs(subs, 0, 9)
	want := []api.Msg{{Kind: api.Rerr, Flags: 3, List: []api.Dest{{Addr: "one", Seq: 1}, {}, {}, {}}, Subs: []api.Sub{{Type: 3, Data: "three"}, {}, {}, {}}}, {}, {}}
	got := list[:3]
	got[0].List, got[0].Subs = dests[:4], subs[:4]
	if !reflect.DeepEqual(got, want) {
		t.Errorf("got %v, want %v", got, want)
	}
}
