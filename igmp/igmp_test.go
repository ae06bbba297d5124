package igmp_test

import (
	"math"
	"slices"
	"strings"
	"testing"
	"unsafe"

	"siphon/api"
	"siphon/csum"
	"siphon/igmp"
)

const (
	group  = "\xe0\x01\x02\x03"
	other  = "\xef\xff\xff\xff"
	group6 = "\xff\x02\x00\x00\x00\x00\x00\x00\x00\x00\x00\x00\x00\x01\x00\x03"
	src6   = "0123456789abcdef"
)

// sources are n addresses of a size, of which no two are alike.
func sources(n int, size int) []api.Addr {
	var l []api.Addr
	for i := range n {
		l = append(l, api.Addr(string([]byte{byte(i >> 8), byte(i)})+strings.Repeat("s", size-2)))
	}
	return l
}

// joined is addresses one behind the other.
func joined(l []api.Addr) string {
	var b strings.Builder
	for _, a := range l {
		b.WriteString(string(a))
	}
	return b.String()
}

// record is bytes of one, with w.
func record(kind int, w int, group string, l []api.Addr) string {
	return string([]byte{byte(kind), byte(w), byte(len(l) >> 8), byte(len(l))}) + group + joined(l) + strings.Repeat("w", 4*w)
}

// summed is s with the right sum in the bytes 2 and 3.
func summed(t *testing.T, s string) string {
	t.Helper()
	s, e := csum.Fill("", s, 2)
	if e != api.OK {
		t.Fatalf("%x: %d", s, e)
	}
	return s
}

func sameRecord(a, b api.Record) bool {
	return a.Kind == b.Kind && a.Group == b.Group && slices.Equal(a.Sources, b.Sources)
}

func sameRecords(a, b []api.Record) bool { return slices.EqualFunc(a, b, sameRecord) }

func same(a, b api.Message) bool {
	return a.Kind == b.Kind && a.Version == b.Version && a.Group == b.Group && a.Max == b.Max && a.Quiet == b.Quiet && a.Robust == b.Robust && a.Every == b.Every && slices.Equal(a.Sources, b.Sources) && sameRecords(a.Records, b.Records)
}

// reads tells of each text that Records must read it so.
func reads(t *testing.T, want []api.Record, n int, size int, l ...string) {
	t.Helper()
	for _, s := range l {
		if got, e := igmp.Records(s, n, size); !sameRecords(got, want) || e != api.OK {
			t.Errorf("%d of %d in %.80x: %v, %d", n, size, s, got, e)
		}
	}
}

// readsNot tells of each text that Records must refuse it so, with no list.
func readsNot(t *testing.T, want api.Errno, n int, size int, l ...string) {
	t.Helper()
	for _, s := range l {
		if got, e := igmp.Records(s, n, size); len(got) != 0 || e != want {
			t.Errorf("%d of %d in %.80x: %v, %d, not %d", n, size, s, got, e, want)
		}
	}
}

// taken tells of each text that Decode must read it so, once its sum is right.
func taken(t *testing.T, want api.Message, l ...string) {
	t.Helper()
	for _, s := range l {
		if m, e := igmp.Decode(summed(t, s)); !same(m, want) || e != api.OK {
			t.Errorf("%.80x: %v, %d", s, m, e)
		}
	}
}

// refused tells of each text that Decode must refuse it so, though its sum is right, with no message.
func refused(t *testing.T, want api.Errno, l ...string) {
	t.Helper()
	for _, s := range l {
		if m, e := igmp.Decode(summed(t, s)); !same(m, api.Message{}) || e != want {
			t.Errorf("%.80x: %v, %d, not %d", s, m, e, want)
		}
	}
}

// encoded is the bytes of a message that may be.
func encoded(t *testing.T, m api.Message) string {
	t.Helper()
	s, e := igmp.Encode(m)
	if s == "" || e != api.OK {
		t.Fatalf("%v: %x, %d", m, s, e)
	}
	return s
}

// number is a code's, as chapter 7 says it.
func number(c int) int {
	if c < 128 {
		return c
	}
	return (c%16 + 16) << (c/16%8 + 3)
}

type example struct {
	s string
	m api.Message
}

// examples are messages that may be, with the bytes that they stand in, but for the sum.
func examples() []example {
	full := sources(60, 4)
	var many []api.Record
	bytes := ""
	for i := range 30 {
		r := api.Record{Kind: i%6 + 1, Group: group, Sources: sources(i, 4)}
		many = append(many, r)
		bytes += record(r.Kind, 0, group, r.Sources)
	}
	return []example{
		{"\x11\x00??\x00\x00\x00\x00", api.Message{Kind: api.Query, Version: 1}},
		{"\x11\x00??" + group, api.Message{Kind: api.Query, Version: 1, Group: group}},
		{"\x11\x01??\x00\x00\x00\x00", api.Message{Kind: api.Query, Version: 2, Max: 1}},
		{"\x11\x64??" + group, api.Message{Kind: api.Query, Version: 2, Max: 100, Group: group}},
		{"\x11\xff??" + other, api.Message{Kind: api.Query, Version: 2, Max: 255, Group: other}},
		{"\x11\x00??\x00\x00\x00\x00\x00\x00\x00\x00", api.Message{Kind: api.Query, Version: 3}},
		{"\x11\x64??\x00\x00\x00\x00\x02\x7d\x00\x00", api.Message{Kind: api.Query, Version: 3, Max: 100, Robust: 2, Every: 125}},
		{"\x11\x80??" + group + "\x08\x81\x00\x00", api.Message{Kind: api.Query, Version: 3, Max: 128, Group: group, Quiet: true, Every: 136}},
		{"\x11\xff??" + group + "\x0f\xff\x00\x02abcdefgh", api.Message{Kind: api.Query, Version: 3, Max: 31744, Group: group, Quiet: true, Robust: 7, Every: 31744, Sources: []api.Addr{"abcd", "efgh"}}},
		{"\x11\x0a??" + other + "\x07\x00\x00\x3c" + joined(full), api.Message{Kind: api.Query, Version: 3, Max: 10, Group: other, Robust: 7, Sources: full}},
		{"\x12\x00??" + group, api.Message{Kind: api.Report, Version: 1, Group: group}},
		{"\x16\x00??" + other, api.Message{Kind: api.Report, Version: 2, Group: other}},
		{"\x17\x00??" + group, api.Message{Kind: api.Leave, Version: 2, Group: group}},
		{"\x22\x00??\x00\x00\x00\x00", api.Message{Kind: api.Report, Version: 3}},
		{"\x22\x00??\x00\x00\x00\x02\x04\x00\x00\x00" + group + "\x05\x00\x00\x02" + other + "abcdefgh", api.Message{Kind: api.Report, Version: 3, Records: []api.Record{{Kind: api.ToEx, Group: group}, {Kind: api.Allow, Group: other, Sources: []api.Addr{"abcd", "efgh"}}}}},
		{"\x22\x00??\x00\x00\x00\x1e" + bytes, api.Message{Kind: api.Report, Version: 3, Records: many}},
		{"\x22\x00??\x00\x00\x00\x01" + record(6, 0, group, full), api.Message{Kind: api.Report, Version: 3, Records: []api.Record{{Kind: api.Block, Group: group, Sources: full}}}},
	}
}

// size is one size of addresses, with a group of it.
type size struct {
	n     int
	group string
}

func sizes() []size { return []size{{4, group}, {16, group6}} }

// P8.1: records of each size, w of 0 and more, one and many, and what stands behind them.
func TestRecordsAreRead(t *testing.T) {
	four := []api.Record{{Kind: 1, Group: group}, {Kind: 4, Group: other, Sources: []api.Addr{"abcd", "efgh"}}}
	s := "\x01\x00\x00\x00" + group + "\x04\x00\x00\x02" + other + "abcdefgh"
	reads(t, four, 2, 4, s, s+"\x00", s+s, s+"\x07\x01")
	reads(t, four[:1], 1, 4, s, s[:8])
	reads(t, nil, 0, 4, "", "\x00", s)
	s = "\x01\x01\x00\x00" + group + "wwww\x04\x02\x00\x02" + other + "abcdefghwwwwwwww"
	reads(t, four, 2, 4, s, s+"w")
	six := []api.Record{{Kind: 6, Group: group6, Sources: []api.Addr{src6}}, {Kind: 3, Group: group6}}
	s = "\x06\x01\x00\x01" + group6 + src6 + "wwww\x03\x00\x00\x00" + group6
	reads(t, six, 2, 16, s, s+"\x00", s+s)
	reads(t, six[:1], 1, 16, s)
	reads(t, nil, 0, 16, "", s)
}

// P8.1: what w counts is passed over, by fours, whatever the size is.
func TestRecordsPassesOverWhatCountsForNothing(t *testing.T) {
	for _, z := range sizes() {
		for w := range 256 {
			first, second := sources(w%3, z.n), sources(2, z.n)
			want := []api.Record{{Kind: 2, Group: api.Addr(z.group), Sources: first}, {Kind: 5, Group: api.Addr(z.group), Sources: second}}
			s := record(2, w, z.group, first) + record(5, 255-w, z.group, second)
			reads(t, want, 2, z.n, s, s+"w")
			readsNot(t, api.ErrCut, 2, z.n, s[:len(s)-1])
		}
	}
}

// P8.1, R2, R3: n below 0 and sizes that are none, ahead of all else.
func TestRecordsTellsWrongArguments(t *testing.T) {
	one := record(1, 0, group, nil)
	for _, n := range []int{-1, -2, -30, math.MinInt} {
		readsNot(t, api.ErrArg, n, 4, "", one)
		readsNot(t, api.ErrArg, n, 16, "", one)
		readsNot(t, api.ErrArg, n, 5, "", one)
	}
	for _, size := range []int{0, 1, 2, 3, 5, 6, 8, 12, 15, 17, 20, 64, -1, -4, -16, math.MinInt, math.MaxInt} {
		for _, n := range []int{-1, 0, 1, 30, 31, math.MaxInt} {
			readsNot(t, api.ErrArg, n, size, "", one, strings.Repeat("\xff", 100))
		}
	}
}

// P8.1, R2: 30 records are not too many; more are, whatever stands there.
func TestRecordsTellsTooMany(t *testing.T) {
	for _, z := range sizes() {
		one := record(1, 0, z.group, nil)
		want := make([]api.Record, 30)
		for i := range want {
			want[i] = api.Record{Kind: 1, Group: api.Addr(z.group)}
		}
		s := strings.Repeat(one, 40)
		reads(t, want, 30, z.n, s, s[:30*len(one)])
		readsNot(t, api.ErrCut, 30, z.n, s[:30*len(one)-1], s[:29*len(one)], "")
		for _, n := range []int{31, 32, 40, 255, 65535, math.MaxInt} {
			readsNot(t, api.ErrForm, n, z.n, s, "", one)
		}
		passed := record(0, 0, z.group, nil)
		reads(t, nil, 30, z.n, strings.Repeat(passed, 31))
		readsNot(t, api.ErrForm, 31, z.n, strings.Repeat(passed, 31))
	}
}

// P8.1: each record that lacks a byte or more, first and behind others.
func TestRecordsTellsMissingBytes(t *testing.T) {
	for _, z := range sizes() {
		for _, w := range []int{0, 1, 3} {
			for _, n := range []int{0, 1, 2} {
				for _, kind := range []int{0, 1, 6, 7} {
					s := record(kind, w, z.group, sources(n, z.n))
					whole := record(3, 0, z.group, nil)
					for cut := range s {
						readsNot(t, api.ErrCut, 1, z.n, s[:cut])
						readsNot(t, api.ErrCut, 2, z.n, whole+s[:cut])
					}
				}
			}
		}
	}
}

// P8.1, R2: 60 Sources are not too many; 61 are, but bytes that are lacking are told first.
func TestRecordsTellsTooManySources(t *testing.T) {
	for _, z := range sizes() {
		for _, w := range []int{0, 2} {
			full := sources(60, z.n)
			s := record(2, w, z.group, full)
			reads(t, []api.Record{{Kind: 2, Group: api.Addr(z.group), Sources: full}}, 1, z.n, s, s+"s")
			readsNot(t, api.ErrCut, 1, z.n, s[:len(s)-1])
			for _, n := range []int{61, 62, 255, 256, 316, 65535} {
				s := record(2, w, z.group, sources(n, z.n))
				readsNot(t, api.ErrForm, 1, z.n, s, s+"s")
				readsNot(t, api.ErrCut, 1, z.n, s[:len(s)-1], s[:len(s)-4*w-1], s[:4+z.n])
			}
		}
	}
}

// P8.1: of four bytes 224 to 239 begins a group, of sixteen 255; a Group that is none is told behind bytes that are lacking.
func TestRecordsTellsWhatIsNoGroup(t *testing.T) {
	for first := range 256 {
		for _, z := range sizes() {
			g := string([]byte{byte(first)}) + z.group[1:]
			for _, kind := range []int{0, 1, 6, 7} {
				s := record(kind, 1, g, sources(2, z.n))
				want := []api.Record{{Kind: kind, Group: api.Addr(g), Sources: sources(2, z.n)}}
				if kind == 0 || kind == 7 {
					want = nil
				}
				if z.n == 4 && first/16 == 14 || z.n == 16 && first == 255 {
					reads(t, want, 1, z.n, s)
					continue
				}
				readsNot(t, api.ErrForm, 1, z.n, s, s+"s")
				readsNot(t, api.ErrForm, 2, z.n, s, s+s)
				readsNot(t, api.ErrCut, 1, z.n, s[:len(s)-1])
			}
		}
	}
}

// P8.1: each kind there is; those that are not told are passed over, but not what is wrong in them.
func TestRecordsOfEachKind(t *testing.T) {
	for kind := range 256 {
		for _, z := range sizes() {
			ahead := api.Record{Kind: 4, Group: api.Addr(z.group), Sources: sources(1, z.n)}
			s := record(4, 1, z.group, ahead.Sources) + record(kind, 1, z.group, sources(3, z.n)) + record(4, 0, z.group, ahead.Sources)
			want := []api.Record{ahead, ahead}
			if 1 <= kind && kind <= 6 {
				want = slices.Insert(want, 1, api.Record{Kind: kind, Group: api.Addr(z.group), Sources: sources(3, z.n)})
			}
			reads(t, want, 3, z.n, s)
			readsNot(t, api.ErrForm, 1, z.n, record(kind, 0, z.group, sources(61, z.n)))
			readsNot(t, api.ErrForm, 1, z.n, record(kind, 0, strings.Repeat("\x00", z.n), nil))
			readsNot(t, api.ErrCut, 1, z.n, record(kind, 1, z.group, nil)[:z.n+7])
		}
	}
}

// P8.1, R2, R3: record by record, the first that is wrong is told.
func TestRecordsTellsTheFirstThatIsWrong(t *testing.T) {
	whole := record(1, 0, group, sources(2, 4))
	wrong := record(1, 0, "\x0a\x00\x00\x01", nil)
	much := record(1, 0, group, sources(61, 4))
	cut := whole[:len(whole)-1]
	readsNot(t, api.ErrForm, 2, 4, wrong+cut, much+cut)
	readsNot(t, api.ErrForm, 3, 4, whole+wrong+cut, whole+much+cut, wrong+whole+cut)
	readsNot(t, api.ErrCut, 2, 4, whole+cut, whole)
	readsNot(t, api.ErrForm, 2, 4, whole+wrong, whole+much)
	reads(t, []api.Record{{Kind: 1, Group: group, Sources: sources(2, 4)}}, 1, 4, whole+wrong, whole+cut)
}

// P8.1: what Body writes, as told by hand.
func TestBody(t *testing.T) {
	for i, c := range []struct {
		l    []api.Record
		size int
		want string
	}{
		{nil, 4, ""},
		{nil, 16, ""},
		{[]api.Record{}, 4, ""},
		{[]api.Record{{Kind: 1, Group: group}}, 4, "\x01\x00\x00\x00" + group},
		{[]api.Record{{Kind: 1, Group: group, Sources: []api.Addr{}}}, 4, "\x01\x00\x00\x00" + group},
		{[]api.Record{{Kind: 6, Group: other, Sources: []api.Addr{"abcd", "efgh"}}, {Kind: 2, Group: group}}, 4, "\x06\x00\x00\x02" + other + "abcdefgh\x02\x00\x00\x00" + group},
		{[]api.Record{{Kind: 3, Group: group6, Sources: []api.Addr{src6}}, {Kind: 5, Group: group6}}, 16, "\x03\x00\x00\x01" + group6 + src6 + "\x05\x00\x00\x00" + group6},
		{[]api.Record{{Kind: 4, Group: group, Sources: sources(60, 4)}}, 4, "\x04\x00\x00\x3c" + group + joined(sources(60, 4))},
	} {
		if s, e := igmp.Body(c.l, c.size); s != c.want || e != api.OK {
			t.Errorf("case %d: %x, %d", i, s, e)
		}
	}
}

// P8.1, R3: sizes that are none, a record that may not be in each place, and more than 30.
func TestBodyTellsWhatMayNotBe(t *testing.T) {
	refuses := func(l []api.Record, size int) {
		t.Helper()
		if s, e := igmp.Body(l, size); s != "" || e != api.ErrArg {
			t.Errorf("%v, %d: %x, %d", l, size, s, e)
		}
	}
	for _, size := range []int{0, 1, 3, 5, 8, 15, 17, -4, -16, math.MinInt, math.MaxInt} {
		refuses(nil, size)
		refuses([]api.Record{{Kind: 1, Group: group}}, size)
		refuses([]api.Record{{Kind: 1, Group: group6}}, size)
	}
	for _, z := range sizes() {
		g := api.Addr(z.group)
		good := api.Record{Kind: 1, Group: g, Sources: sources(1, z.n)}
		for _, bad := range []api.Record{
			{},
			{Kind: 0, Group: g},
			{Kind: 7, Group: g},
			{Kind: -1, Group: g},
			{Kind: 257, Group: g},
			{Kind: math.MinInt, Group: g},
			{Kind: math.MaxInt, Group: g},
			{Kind: 1},
			{Kind: 1, Group: g[1:]},
			{Kind: 1, Group: g[:z.n-1]},
			{Kind: 1, Group: g + "\x00"},
			{Kind: 1, Group: "\x0a" + g[1:]},
			{Kind: 1, Group: "\xfe" + g[1:]},
			{Kind: 1, Group: api.Addr(strings.Repeat("\x00", z.n))},
			{Kind: 1, Group: g, Sources: []api.Addr{""}},
			{Kind: 1, Group: g, Sources: sources(1, z.n-1)},
			{Kind: 1, Group: g, Sources: sources(1, z.n+1)},
			{Kind: 1, Group: g, Sources: sources(2, 20-z.n)},
			{Kind: 1, Group: g, Sources: append(sources(3, z.n), "abc")},
			{Kind: 1, Group: g, Sources: append(sources(1, z.n-1), sources(1, z.n+1)...)},
			{Kind: 1, Group: g, Sources: sources(61, z.n)},
			{Kind: 1, Group: g, Sources: sources(65536, z.n)},
		} {
			refuses([]api.Record{bad}, z.n)
			refuses([]api.Record{bad, good}, z.n)
			refuses([]api.Record{good, good, bad}, z.n)
		}
		refuses([]api.Record{good}, 20-z.n)
		refuses(slices.Repeat([]api.Record{good}, 31), z.n)
		refuses(slices.Repeat([]api.Record{good}, 65536), z.n)
		refuses(make([]api.Record, 31), z.n)
	}
}

// P8.1, P8.4: what Body writes, Records reads; 30 records and 60 Sources are not too many.
func TestWhatBodyWritesRecordsReads(t *testing.T) {
	for _, z := range sizes() {
		var l []api.Record
		for n := range 30 {
			for kind := 1; kind <= 6; kind++ {
				l = append(l[:n:n], api.Record{Kind: kind, Group: api.Addr(z.group), Sources: sources(2*n+2, z.n)})
				s, e := igmp.Body(l, z.n)
				if e != api.OK {
					t.Fatalf("%d of %d: %d", n, z.n, e)
				}
				reads(t, l, n+1, z.n, s, s+"behind")
				readsNot(t, api.ErrCut, n+1, z.n, s[:len(s)-1])
			}
		}
	}
}

// P8.2, P8.3: the document's example, and others with their sums, as told by hand.
func TestSumsAreWritten(t *testing.T) {
	for s, m := range map[string]api.Message{
		"\x17\x00\x06\xfb\xe0\x01\x02\x03":                                 {Kind: api.Leave, Version: 2, Group: group},
		"\x16\x00\x07\xfb\xe0\x01\x02\x03":                                 {Kind: api.Report, Version: 2, Group: group},
		"\x11\x00\xee\xff\x00\x00\x00\x00":                                 {Kind: api.Query, Version: 1},
		"\x11\x64\xee\x9b\x00\x00\x00\x00":                                 {Kind: api.Query, Version: 2, Max: 100},
		"\x11\x64\xec\x1e\x00\x00\x00\x00\x02\x7d\x00\x00":                 {Kind: api.Query, Version: 3, Max: 100, Robust: 2, Every: 125},
		"\x22\x00\xf7\xf9\x00\x00\x00\x01\x04\x00\x00\x00\xe0\x01\x02\x03": {Kind: api.Report, Version: 3, Records: []api.Record{{Kind: api.ToEx, Group: group}}},
	} {
		if b := encoded(t, m); b != s {
			t.Errorf("%x: written %x", s, b)
		}
		if got, e := igmp.Decode(s); !same(got, m) || e != api.OK {
			t.Errorf("%x: %v, %d", s, got, e)
		}
	}
}

// P8.2, P8.3, R4: each message, read and written.
func TestMessagesAreReadAndWritten(t *testing.T) {
	for _, x := range examples() {
		taken(t, x.m, x.s)
		if b := encoded(t, x.m); b != summed(t, x.s) {
			t.Errorf("%x: written %x", x.s, b)
		}
	}
}

// P8.2, R2: seven bytes are too few, whatever they are and though their sum is right.
func TestDecodeTellsFewBytes(t *testing.T) {
	for _, x := range examples() {
		for n := range 8 {
			short := x.s[:n]
			if n >= 4 {
				short = summed(t, short)
			}
			for _, s := range []string{short, summed(t, x.s)[:n]} {
				if m, e := igmp.Decode(s); !same(m, api.Message{}) || e != api.ErrCut {
					t.Errorf("%x: %v, %d", s, m, e)
				}
			}
		}
	}
	for _, s := range []string{"", "\xff\xff", strings.Repeat("\x99", 7)} {
		if _, e := igmp.Decode(s); e != api.ErrCut {
			t.Errorf("%x: %d", s, e)
		}
	}
}

// P8.2, R2: a sum that is wrong by one bit, of all of the text, is told ahead of what is wrong in it.
func TestDecodeTellsWrongSums(t *testing.T) {
	wrong := func(s string) {
		t.Helper()
		if m, e := igmp.Decode(s); !same(m, api.Message{}) || e != api.ErrSum {
			t.Errorf("%.80x: %v, %d", s, m, e)
		}
	}
	for _, x := range examples() {
		for _, s := range []string{x.s, x.s + "p", x.s + "padding", "\x99" + x.s[1:], x.s[:4] + "\x0a" + x.s[5:], x.s[:8] + "\x01"} {
			s = summed(t, s)
			for bit := range 8 * len(s) {
				b := []byte(s)
				b[bit/8] ^= 1 << (bit % 8)
				wrong(string(b))
			}
		}
	}
	wrong("\x16\x00\x00\x00" + group)
	wrong("\x16\x00\xff\xff" + group)
	wrong(strings.Repeat("\x00", 8))
	wrong(strings.Repeat("\x00", 100))
}

// P8.2: each first byte there is; those that the document does not name are no messages.
func TestDecodeOfEachFirstByte(t *testing.T) {
	known := map[byte]api.Message{
		0x11: {Kind: api.Query, Version: 2, Max: 5, Group: group},
		0x12: {Kind: api.Report, Version: 1, Group: group},
		0x16: {Kind: api.Report, Version: 2, Group: group},
		0x17: {Kind: api.Leave, Version: 2, Group: group},
	}
	for first := range 256 {
		b := string([]byte{byte(first)})
		s := b + "\x05??" + group
		if want, ok := known[byte(first)]; ok {
			taken(t, want, s)
			continue
		}
		refused(t, api.ErrForm, s)
		if first != 0x22 {
			refused(t, api.ErrForm, b+"\x00??\x00\x00\x00\x00", b+"\x00??\x00\x00\x00\x01"+record(1, 0, group, nil), s+"\x00\x00\x00\x00")
		}
	}
	taken(t, api.Message{Kind: api.Report, Version: 3}, "\x22\x05??"+group[:2]+"\x00\x00")
}

// P8.2: of eight bytes the second one tells the version; of version 2 it is no code.
func TestDecodeReadsShortQueries(t *testing.T) {
	for n := range 256 {
		want := api.Message{Kind: api.Query, Version: 2, Max: n, Group: group}
		if n == 0 {
			want.Version = 1
		}
		b := string([]byte{byte(n)})
		taken(t, want, "\x11"+b+"??"+group)
		want.Group = ""
		taken(t, want, "\x11"+b+"??\x00\x00\x00\x00")
	}
}

// P8.2: nine to eleven bytes are no query; twelve are.
func TestDecodeTellsQueriesOfNoLength(t *testing.T) {
	for _, head := range []string{"\x11\x00??\x00\x00\x00\x00", "\x11\x64??" + group, "\x11\x64??\x0a\x00\x00\x01"} {
		for _, behind := range []string{"\x00\x00\x00\x00", "\x02\x7d\x00\x3d", "\x02\x7d\xff\xff"} {
			for n := 1; n < 4; n++ {
				refused(t, api.ErrForm, head+behind[:n])
			}
		}
	}
	taken(t, api.Message{Kind: api.Query, Version: 3}, "\x11\x00??\x00\x00\x00\x00\x00\x00\x00\x00")
}

// P8.2: of version 3 each code of Max and of Every, and each byte of Quiet and Robust, whose four highest bits are free.
func TestDecodeReadsEachNumberOfAQuery(t *testing.T) {
	for n := range 256 {
		b := string([]byte{byte(n)})
		want := api.Message{Kind: api.Query, Version: 3, Group: group}
		want.Max = number(n)
		taken(t, want, "\x11"+b+"??"+group+"\x00\x00\x00\x00")
		want.Max, want.Every = 0, number(n)
		taken(t, want, "\x11\x00??"+group+"\x00"+b+"\x00\x00")
		want.Every, want.Quiet, want.Robust = 0, n/8%2 == 1, n%8
		taken(t, want, "\x11\x00??"+group+b+"\x00\x00\x00")
	}
}

// P8.2, R2: too many Sources, then bytes that are lacking, then a Group that is wrong; what stands behind counts for nothing.
func TestDecodeReadsTheSourcesOfAQuery(t *testing.T) {
	text := func(group string, n int) string {
		return "\x11\x64??" + group + "\x02\x7d" + string([]byte{byte(n >> 8), byte(n)})
	}
	for _, n := range []int{0, 1, 2, 59, 60} {
		want := api.Message{Kind: api.Query, Version: 3, Max: 100, Group: group, Robust: 2, Every: 125, Sources: sources(n, 4)}
		s := text(group, n) + joined(want.Sources)
		taken(t, want, s, s+"p", s+"padding", s+"\x00\x00\x00\x00")
		for _, g := range []string{group, "\x00\x00\x00\x00", "\x0a\x00\x00\x01"} {
			for cut := 12; cut < len(s); cut++ {
				refused(t, api.ErrCut, text(g, n)+s[12:cut])
			}
		}
		refused(t, api.ErrForm, text("\x0a\x00\x00\x01", n)+s[12:])
		if n > 0 {
			refused(t, api.ErrForm, text("\x00\x00\x00\x00", n)+s[12:])
		}
	}
	for _, n := range []int{61, 62, 255, 256, 257, 316, 65535} {
		for _, g := range []string{group, "\x00\x00\x00\x00", "\x0a\x00\x00\x01"} {
			refused(t, api.ErrForm, text(g, n), text(g, n)+"abcd", text(g, n)+joined(sources(n, 4)))
		}
	}
}

// P8.2: each first byte of a Group; but 0.0.0.0 nothing that is no group may stand in a query, and not even that elsewhere.
func TestDecodeTellsWhatIsNoGroup(t *testing.T) {
	for first := range 256 {
		for _, rest := range []string{"\x00\x00\x00", "\x00\x00\x01", "\x01\x00\x00", "\xff\xff\xff"} {
			g := string([]byte{byte(first)}) + rest
			want := api.Message{Kind: api.Query, Version: 1, Group: api.Addr(g)}
			long := want
			long.Version = 3
			if g == "\x00\x00\x00\x00" {
				want.Group, long.Group = "", ""
			} else if first/16 != 14 {
				refused(t, api.ErrForm, "\x11\x00??"+g, "\x11\x64??"+g, "\x11\x00??"+g+"\x00\x00\x00\x00", "\x11\x00??"+g+"\x00\x00\x00\x01abcd")
				refused(t, api.ErrForm, "\x12\x00??"+g, "\x16\x00??"+g, "\x17\x00??"+g, "\x16\x00??"+g+group)
				continue
			}
			taken(t, want, "\x11\x00??"+g)
			taken(t, long, "\x11\x00??"+g+"\x00\x00\x00\x00")
			for first, want := range map[string]api.Message{"\x12": {Kind: api.Report, Version: 1}, "\x16": {Kind: api.Report, Version: 2}, "\x17": {Kind: api.Leave, Version: 2}} {
				want.Group = api.Addr(g)
				if g == "\x00\x00\x00\x00" {
					refused(t, api.ErrForm, first+"\x00??"+g)
					continue
				}
				taken(t, want, first+"\x00??"+g)
			}
		}
	}
}

// P8.2, R4: of all but queries the second byte is free, of a report of version 3 the two behind the sum too; what stands behind counts for nothing.
func TestDecodePassesOverFreeBytes(t *testing.T) {
	l := []api.Record{{Kind: 3, Group: group, Sources: []api.Addr{"abcd"}}}
	for n := range 256 {
		b := string([]byte{byte(n)})
		for first, want := range map[string]api.Message{"\x12": {Kind: api.Report, Version: 1, Group: group}, "\x16": {Kind: api.Report, Version: 2, Group: group}, "\x17": {Kind: api.Leave, Version: 2, Group: group}} {
			s := first + b + "??" + group
			taken(t, want, s, s+"p", s+b, s+b+b+b+b, s+"\x01\x02\x03"+strings.Repeat(b, 200))
		}
		behind := "\x00\x01" + record(3, 0, group, l[0].Sources)
		want := api.Message{Kind: api.Report, Version: 3, Records: l}
		taken(t, want, "\x22"+b+"??\x00\x00"+behind, "\x22\x00??"+b+"\x00"+behind, "\x22\x00??\x00"+b+behind, "\x22\x00??\x00\x00"+behind+b, "\x22"+b+"??"+b+b+behind+strings.Repeat(b, 30))
	}
}

// P8.2: a report of version 3 has its records' errors.
func TestDecodeReadsRecords(t *testing.T) {
	head := func(n int) string { return "\x22\x00??\x00\x00" + string([]byte{byte(n >> 8), byte(n)}) }
	one := record(2, 0, group, sources(2, 4))
	want := api.Message{Kind: api.Report, Version: 3}
	taken(t, want, head(0), head(0)+one, head(0)+"\xff", head(1)+record(0, 0, group, nil), head(2)+record(7, 2, group, sources(3, 4))+record(255, 0, group, nil))
	refused(t, api.ErrForm, head(31), head(31)+strings.Repeat(one, 31), head(256), head(65535), head(286)+strings.Repeat(one, 30))
	refused(t, api.ErrForm, head(1)+record(2, 0, "\x0a\x00\x00\x01", nil), head(1)+record(9, 0, "\x0a\x00\x00\x01", nil), head(1)+record(2, 0, group, sources(61, 4)), head(2)+one+record(2, 0, "\x00\x00\x00\x00", nil))
	refused(t, api.ErrCut, head(1), head(2)+one, head(30)+strings.Repeat(one, 29), head(1)+record(2, 1, group, nil)[:11])
	for n := range one {
		refused(t, api.ErrCut, head(1)+one[:n], head(2)+one+one[:n])
	}
	for range 30 {
		want.Records = append(want.Records, api.Record{Kind: 2, Group: group, Sources: sources(2, 4)})
		n := len(want.Records)
		taken(t, want, head(n)+strings.Repeat(one, n), head(n)+strings.Repeat(one, 31))
	}
	// A group of sixteen bytes is none here: its bytes stand for something else.
	refused(t, api.ErrForm, head(1)+record(2, 0, group6, nil))
}

// notAsked are messages each of which has what its kind and version may not have, or lacks what they must have.
func notAsked() []api.Message {
	abcd := []api.Addr{"abcd"}
	l := []api.Record{{Kind: 1, Group: group}}
	var out []api.Message
	for _, version := range []int{1, 2, 3} {
		m := api.Message{Kind: api.Query, Version: version, Max: 0, Group: group}
		if version == 2 {
			m.Max = 7
		}
		for _, change := range []func(m *api.Message){
			func(m *api.Message) { m.Version = 0 },
			func(m *api.Message) { m.Version = 4 },
			func(m *api.Message) { m.Version = -m.Version },
			func(m *api.Message) { m.Version += 256 },
			func(m *api.Message) { m.Version = math.MaxInt },
			func(m *api.Message) { m.Kind = 0 },
			func(m *api.Message) { m.Kind = 4 },
			func(m *api.Message) { m.Kind = -1 },
			func(m *api.Message) { m.Kind = math.MinInt },
			func(m *api.Message) { m.Max = -1 },
			func(m *api.Message) { m.Max = math.MinInt },
			func(m *api.Message) { m.Max = math.MaxInt },
			func(m *api.Message) { m.Group = api.Addr(group[1:]) },
			func(m *api.Message) { m.Group = group + "\x00" },
			func(m *api.Message) { m.Group = group6 },
			func(m *api.Message) { m.Group = "\x00\x00\x00\x00" },
			func(m *api.Message) { m.Group = "\xdf\xff\xff\xff" },
			func(m *api.Message) { m.Group = "\xf0\x00\x00\x00" },
			func(m *api.Message) { m.Group = "\xff\xff\xff\xff" },
			func(m *api.Message) { m.Records = l },
			func(m *api.Message) { m.Group, m.Sources = "", abcd },
			func(m *api.Message) { m.Sources = []api.Addr{""} },
			func(m *api.Message) { m.Sources = []api.Addr{"abc"} },
			func(m *api.Message) { m.Sources = []api.Addr{"abcde"} },
			func(m *api.Message) { m.Sources = []api.Addr{src6} },
			func(m *api.Message) { m.Sources = []api.Addr{"abcd", "abc", "abcde"} },
			func(m *api.Message) { m.Sources = sources(61, 4) },
			func(m *api.Message) { m.Sources = sources(65536, 4) },
			func(m *api.Message) { m.Robust = -1 },
			func(m *api.Message) { m.Robust = 8 },
			func(m *api.Message) { m.Robust = math.MaxInt },
			func(m *api.Message) { m.Robust = math.MinInt },
			func(m *api.Message) { m.Every = -1 },
			func(m *api.Message) { m.Every = 129 },
			func(m *api.Message) { m.Every = 135 },
			func(m *api.Message) { m.Every = 31745 },
			func(m *api.Message) { m.Every = math.MinInt },
			func(m *api.Message) { m.Every = math.MaxInt },
		} {
			bad := m
			change(&bad)
			out = append(out, bad)
		}
	}
	for _, version := range []int{1, 2} {
		m := api.Message{Kind: api.Query, Version: version, Max: version - 1, Group: group}
		for _, change := range []func(m *api.Message){
			func(m *api.Message) { m.Quiet = true },
			func(m *api.Message) { m.Robust = 1 },
			func(m *api.Message) { m.Every = 1 },
			func(m *api.Message) { m.Sources = abcd },
			func(m *api.Message) { m.Max = 2 * (1 - m.Max) },
			func(m *api.Message) { m.Max = 256 },
		} {
			bad := m
			change(&bad)
			out = append(out, bad)
		}
	}
	for _, max := range []int{129, 135, 137, 255, 257, 31743, 31745, 32768} {
		out = append(out, api.Message{Kind: api.Query, Version: 3, Max: max}, api.Message{Kind: api.Query, Version: 3, Every: max})
	}
	return out
}

// notTold are reports and leaves that may not be.
func notTold() []api.Message {
	l := []api.Record{{Kind: 1, Group: group}}
	var out []api.Message
	for _, m := range []api.Message{
		{Kind: api.Report, Version: 1, Group: group},
		{Kind: api.Report, Version: 2, Group: group},
		{Kind: api.Leave, Version: 2, Group: group},
		{Kind: api.Report, Version: 3},
		{Kind: api.Report, Version: 3, Records: l},
	} {
		for _, change := range []func(m *api.Message){
			func(m *api.Message) { m.Version = 0 },
			func(m *api.Message) { m.Version = 4 },
			func(m *api.Message) { m.Version = -m.Version },
			func(m *api.Message) { m.Version += 256 },
			func(m *api.Message) { m.Kind = 0 },
			func(m *api.Message) { m.Kind = 4 },
			func(m *api.Message) { m.Kind = math.MaxInt },
			func(m *api.Message) { m.Max = 1 },
			func(m *api.Message) { m.Max = -1 },
			func(m *api.Message) { m.Quiet = true },
			func(m *api.Message) { m.Robust = 1 },
			func(m *api.Message) { m.Every = 1 },
			func(m *api.Message) { m.Sources = []api.Addr{"abcd"} },
			func(m *api.Message) { m.Group = "\x00\x00\x00\x00" },
			func(m *api.Message) { m.Group = "\xdf\xff\xff\xff" },
			func(m *api.Message) { m.Group = "\xf0\x00\x00\x00" },
			func(m *api.Message) { m.Group = api.Addr(group[:3]) },
			func(m *api.Message) { m.Group = group + "\x00" },
			func(m *api.Message) { m.Group = group6 },
		} {
			bad := m
			change(&bad)
			out = append(out, bad)
		}
		if m.Version != 3 {
			bare, more := m, m
			bare.Group, more.Records = "", l
			out = append(out, bare, more)
		}
	}
	for _, version := range []int{1, 3} {
		out = append(out, api.Message{Kind: api.Leave, Version: version, Group: group}, api.Message{Kind: api.Leave, Version: version}, api.Message{Kind: api.Leave, Version: version, Records: l})
	}
	for _, bad := range []api.Record{{}, {Kind: 0, Group: group}, {Kind: 7, Group: group}, {Kind: 1}, {Kind: 1, Group: group6}, {Kind: 1, Group: "\x0a\x00\x00\x01"}, {Kind: 1, Group: group, Sources: []api.Addr{"abc"}}, {Kind: 1, Group: group, Sources: []api.Addr{src6}}, {Kind: 1, Group: group, Sources: sources(61, 4)}} {
		out = append(out, api.Message{Kind: api.Report, Version: 3, Records: []api.Record{bad}}, api.Message{Kind: api.Report, Version: 3, Records: []api.Record{l[0], bad}})
	}
	six := []api.Record{{Kind: 1, Group: group6, Sources: []api.Addr{src6}}}
	return append(out, api.Message{}, api.Message{Kind: api.Report, Version: 3, Records: six}, api.Message{Kind: api.Report, Version: 3, Group: group, Records: l}, api.Message{Kind: api.Report, Version: 3, Records: slices.Repeat(l, 31)}, api.Message{Kind: api.Report, Version: 3, Records: slices.Repeat(l, 65537)})
}

// P8.3, R3: each condition under which a message may not be.
func TestEncodeTellsWhatMayNotBe(t *testing.T) {
	for i, m := range append(notAsked(), notTold()...) {
		if s, e := igmp.Encode(m); s != "" || e != api.ErrArg {
			t.Errorf("case %d: %v: %x, %d", i, m, s, e)
		}
	}
}

// P8.3, P8.4: a query's numbers, all that may be and none else.
func TestEncodeOfEachNumberOfAQuery(t *testing.T) {
	coded := map[int]bool{}
	for c := range 256 {
		coded[number(c)] = true
	}
	holds := func(m api.Message, may bool) {
		t.Helper()
		s, e := igmp.Encode(m)
		if !may && (s != "" || e != api.ErrArg) {
			t.Errorf("%v: %x, %d", m, s, e)
		}
		if may {
			taken(t, m, encoded(t, m))
		}
	}
	for n := -10; n < 33000; n++ {
		holds(api.Message{Kind: api.Query, Version: 1, Max: n}, n == 0)
		holds(api.Message{Kind: api.Query, Version: 2, Max: n}, 1 <= n && n <= 255)
		holds(api.Message{Kind: api.Query, Version: 3, Max: n}, coded[n])
		holds(api.Message{Kind: api.Query, Version: 3, Every: n}, coded[n])
		if n < 300 {
			holds(api.Message{Kind: api.Query, Version: 3, Robust: n}, 0 <= n && n <= 7)
			holds(api.Message{Kind: api.Query, Version: 3, Robust: n, Quiet: true}, 0 <= n && n <= 7)
		}
	}
}

// P8.4: what was encoded is decoded.
func TestWhatWasEncodedIsDecoded(t *testing.T) {
	for _, x := range examples() {
		s := encoded(t, x.m)
		if m, e := igmp.Decode(s); !same(m, x.m) || e != api.OK {
			t.Errorf("%x: %v, %d", s, m, e)
		}
	}
	for n := range 61 {
		m := api.Message{Kind: api.Query, Version: 3, Max: number(n), Group: other, Quiet: n%2 == 0, Robust: n % 8, Every: number(255 - n), Sources: sources(n, 4)}
		taken(t, m, encoded(t, m))
		m = api.Message{Kind: api.Report, Version: 3}
		for i := range n % 31 {
			m.Records = append(m.Records, api.Record{Kind: (n+i)%6 + 1, Group: group, Sources: sources((n*i)%61, 4)})
		}
		taken(t, m, encoded(t, m))
	}
}

// R3: a list without elements may be handed in where there is none.
func TestEncodeTakesEmptyLists(t *testing.T) {
	for _, x := range examples() {
		m := x.m
		if len(m.Sources) == 0 {
			m.Sources = []api.Addr{}
		}
		if len(m.Records) == 0 {
			m.Records = []api.Record{}
		}
		if s := encoded(t, m); s != summed(t, x.s) {
			t.Errorf("%x: written %x", x.s, s)
		}
	}
}

// R1: whatever bytes there are, Decode ends, and what it takes is read again as it was.
func TestNoBytesAreTooMuch(t *testing.T) {
	seed := uint32(8)
	read := 0
	for _, x := range examples() {
		for range 2000 {
			b := []byte(x.s)
			for range 3 {
				seed = seed*1664525 + 1013904223
				at := seed >> 8 % uint32(len(b))
				if seed>>7%2 == 0 {
					at %= 16
				}
				b[at%uint32(len(b))] = byte(seed >> 24)
			}
			s := summed(t, string(b[:len(b)-int(seed>>16%2)*int(seed>>20%3)])+"????")
			m, e := igmp.Decode(s)
			if e != api.OK {
				refused(t, e, s)
				continue
			}
			taken(t, m, encoded(t, m))
			read++
		}
	}
	if read == 0 {
		t.Error("none was read")
	}
}

// R5: no part of what is read shares the text's memory, and no two lists share any, nor their spare room.
func TestDecodeAnswersNewMemory(t *testing.T) {
	for _, x := range examples() {
		s := summed(t, x.s+"padding")
		if len(x.s) == 8 && x.s[0] == 0x11 {
			s = summed(t, x.s)
		}
		m, e := igmp.Decode(s)
		if e != api.OK {
			t.Fatalf("%x: %d", s, e)
		}
		parts := append([]api.Addr{m.Group}, m.Sources...)
		for _, r := range m.Records {
			parts = append(append(parts, r.Group), r.Sources...)
		}
		for _, part := range parts {
			if inside(string(part), s) {
				t.Errorf("%x: %x shares its memory", s, part)
			}
		}
		for i := range m.Records {
			_ = append(m.Records[i].Sources, "more")
		}
		_ = append(m.Sources, "more")
		if !same(m, x.m) {
			t.Errorf("%x: lists share memory: %v", s, m)
		}
	}
}

// R5: what is handed in is not changed.
func TestEncodeChangesNothing(t *testing.T) {
	for i, x := range examples() {
		encoded(t, x.m)
		if !same(x.m, examples()[i].m) {
			t.Errorf("%v", x.m)
		}
	}
}

// inside tells whether part's bytes stand where s keeps its own.
func inside(part string, s string) bool {
	if part == "" {
		return false
	}
	at := uintptr(unsafe.Pointer(unsafe.StringData(part)))
	first := uintptr(unsafe.Pointer(unsafe.StringData(s)))
	return first <= at && at < first+uintptr(len(s))
}
