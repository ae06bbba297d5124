package mld_test

import (
	"math"
	"slices"
	"strings"
	"testing"
	"unsafe"

	"siphon/api"
	"siphon/igmp"
	"siphon/mld"
)

const (
	host  = "\xfe\x80\x00\x00\x00\x00\x00\x00\x00\x00\x00\x00\x00\x00\x00\x01"
	many  = "\xff\x05\x00\x00\x00\x00\x00\x00\x00\x00\x00\x00\x00\x00\x00\x09"
	other = "\xff\xff\xff\xff\xff\xff\xff\xff\xff\xff\xff\xff\xff\xff\xff\xff"
	none  = "\x00\x00\x00\x00\x00\x00\x00\x00\x00\x00\x00\x00\x00\x00\x00\x00"
)

// sources are n addresses of a size, of which no two are alike.
func sources(n int, size int) []api.Addr {
	var l []api.Addr
	for i := range n {
		l = append(l, api.Addr(string([]byte{byte(i >> 8), byte(i)})+strings.Repeat("s", size-2)))
	}
	return l
}

// joined is addresses one behind the other.
func joined(l []api.Addr) string {
	var b strings.Builder
	for _, a := range l {
		b.WriteString(string(a))
	}
	return b.String()
}

// record is bytes of one, with w.
func record(kind int, w int, group string, l []api.Addr) string {
	return string([]byte{byte(kind), byte(w), byte(len(l) >> 8), byte(len(l))}) + group + joined(l) + strings.Repeat("w", 4*w)
}

// byteOf is a text of one.
func byteOf(n int) string { return string([]byte{byte(n)}) }

// two is a number in two bytes.
func two(n int) string { return byteOf(n>>8) + byteOf(n) }

// total is the ones' addition of a text's words, told apart from the program.
func total(s string) int {
	t := 0
	for i := range len(s) {
		t += int(s[i]) << (8 * (1 - i%2))
	}
	for t > 65535 {
		t = t>>16 + t&65535
	}
	return t
}

// summedBetween is s with the right sum in the bytes 2 and 3, for its way from src to dst.
func summedBetween(src string, dst string, s string) string {
	n := len(s)
	ahead := src + dst + "\x00" + byteOf(n>>16) + two(n) + "\x00\x00\x00\x3a"
	return s[:2] + two(65535-total(ahead+s[:2]+s[4:])) + s[4:]
}

func summed(s string) string { return summedBetween(host, many, s) }

func sameRecord(a, b api.Record) bool {
	return a.Kind == b.Kind && a.Group == b.Group && slices.Equal(a.Sources, b.Sources)
}

func same(a, b api.Message) bool {
	return a.Kind == b.Kind && a.Version == b.Version && a.Group == b.Group && a.Max == b.Max && a.Quiet == b.Quiet && a.Robust == b.Robust && a.Every == b.Every && slices.Equal(a.Sources, b.Sources) && slices.EqualFunc(a.Records, b.Records, sameRecord)
}

// fails tells of a text that Decode must refuse it so, with no message.
func fails(t *testing.T, want api.Errno, src string, dst string, s string) {
	t.Helper()
	if m, e := mld.Decode(api.Addr(src), api.Addr(dst), s); !same(m, api.Message{}) || e != want {
		t.Errorf("%x to %x: %d bytes, %.80x: %v, %d, not %d", src, dst, len(s), s, m, e, want)
	}
}

// taken tells of each text that Decode must read it so, once its sum is right.
func taken(t *testing.T, want api.Message, l ...string) {
	t.Helper()
	for _, s := range l {
		if m, e := mld.Decode(host, many, summed(s)); !same(m, want) || e != api.OK {
			t.Errorf("%d bytes, %.80x: %v, %d", len(s), s, m, e)
		}
	}
}

// refused tells of each text that Decode must refuse it so, though its sum is right.
func refused(t *testing.T, want api.Errno, l ...string) {
	t.Helper()
	for _, s := range l {
		fails(t, want, host, many, summed(s))
	}
}

// encoded is the bytes of a message that may be.
func encoded(t *testing.T, m api.Message) string {
	t.Helper()
	s, e := mld.Encode(host, many, m)
	if s == "" || e != api.OK {
		t.Fatalf("%v: %x, %d", m, s, e)
	}
	return s
}

// unwritten tells of each message that Encode must refuse it, with no bytes.
func unwritten(t *testing.T, l ...api.Message) {
	t.Helper()
	for i, m := range l {
		if s, e := mld.Encode(host, many, m); s != "" || e != api.ErrArg {
			t.Errorf("case %d: %.200v: %x, %d", i, m, s, e)
		}
	}
}

// short and long are the numbers of codes of one byte and of two, as chapter 7 says them.
func short(c int) int {
	if c < 128 {
		return c
	}
	return (c%16 + 16) << (c/16%8 + 3)
}

func long(c int) int {
	if c < 32768 {
		return c
	}
	return (c%4096 + 4096) << (c/4096%8 + 3)
}

// What messages begin with, up to Group.
func queryHead(max int) string { return "\x82\x00??" + two(max) + "\x00\x00" }

const (
	reportHead = "\x83\x00??\x00\x00\x00\x00"
	leaveHead  = "\x84\x00??\x00\x00\x00\x00"
)

func listHead(n int) string { return "\x8f\x00??\x00\x00" + two(n) }

type example struct {
	s string
	m api.Message
}

// examples are messages that may be, with the bytes that they stand in, but for the sum.
func examples() []example {
	full := sources(60, 16)
	var l []api.Record
	bytes := ""
	for i := range 30 {
		r := api.Record{Kind: i%6 + 1, Group: many, Sources: sources(2*i, 16)}
		l = append(l, r)
		bytes += record(r.Kind, 0, many, r.Sources)
	}
	return []example{
		{queryHead(0) + none, api.Message{Kind: api.Query, Version: 1}},
		{queryHead(1000) + none, api.Message{Kind: api.Query, Version: 1, Max: 1000}},
		{queryHead(65535) + many, api.Message{Kind: api.Query, Version: 1, Max: 65535, Group: many}},
		{queryHead(0) + none + "\x00\x00\x00\x00", api.Message{Kind: api.Query, Version: 2}},
		{queryHead(10000) + none + "\x02\x7d\x00\x00", api.Message{Kind: api.Query, Version: 2, Max: 10000, Robust: 2, Every: 125}},
		{queryHead(32769) + many + "\x08\x81\x00\x00", api.Message{Kind: api.Query, Version: 2, Max: 32776, Group: many, Quiet: true, Every: 136}},
		{queryHead(65535) + many + "\x0f\xff\x00\x02" + host + other, api.Message{Kind: api.Query, Version: 2, Max: 8387584, Group: many, Quiet: true, Robust: 7, Every: 31744, Sources: []api.Addr{host, other}}},
		{queryHead(1) + other + "\x07\x00\x00\x3c" + joined(full), api.Message{Kind: api.Query, Version: 2, Max: 1, Group: other, Robust: 7, Sources: full}},
		{reportHead + many, api.Message{Kind: api.Report, Version: 1, Group: many}},
		{leaveHead + other, api.Message{Kind: api.Leave, Version: 1, Group: other}},
		{listHead(0), api.Message{Kind: api.Report, Version: 2}},
		{listHead(2) + "\x04\x00\x00\x00" + many + "\x05\x00\x00\x02" + other + host + none, api.Message{Kind: api.Report, Version: 2, Records: []api.Record{{Kind: api.ToEx, Group: many}, {Kind: api.Allow, Group: other, Sources: []api.Addr{host, none}}}}},
		{listHead(1) + record(6, 0, many, full), api.Message{Kind: api.Report, Version: 2, Records: []api.Record{{Kind: api.Block, Group: many, Sources: full}}}},
		{listHead(30) + bytes, api.Message{Kind: api.Report, Version: 2, Records: l}},
	}
}

// wrongAddrs are addresses that are not of sixteen bytes.
func wrongAddrs() []string {
	return []string{"", "\xff", "\xff\x05\x00\x09", many[:8], many[:15], many + "\x00", many + many}
}

// P9.1, P9.2: each message, with its sum as worked out apart from the program.
func TestSumsAreWritten(t *testing.T) {
	for s, m := range map[string]api.Message{
		"\x83\x00\x80\x0d\x00\x00\x00\x00" + many:                             {Kind: api.Report, Version: 1, Group: many},
		"\x84\x00\x7f\x0d\x00\x00\x00\x00" + many:                             {Kind: api.Leave, Version: 1, Group: many},
		"\x82\x00\x7c\x34\x03\xe8\x00\x00" + none:                             {Kind: api.Query, Version: 1, Max: 1000},
		"\x82\x00\xf7\xf8\x80\x00\x00\x00" + many + "\x0a\x7d\x00\x01" + host: {Kind: api.Query, Version: 2, Max: 32768, Group: many, Quiet: true, Robust: 2, Every: 125, Sources: []api.Addr{host}},
		"\x8f\x00\x70\x08\x00\x00\x00\x01\x04\x00\x00\x00" + many:             {Kind: api.Report, Version: 2, Records: []api.Record{{Kind: api.ToEx, Group: many}}},
		"\x8f\x00\x73\x2c\x00\x00\x00\x00":                                    {Kind: api.Report, Version: 2},
	} {
		if b := encoded(t, m); b != s {
			t.Errorf("%x: written %x", s, b)
		}
		if got, e := mld.Decode(host, many, s); !same(got, m) || e != api.OK {
			t.Errorf("%x: %v, %d", s, got, e)
		}
	}
}

// P9.1, P9.2, R4: each message, read and written.
func TestMessagesAreReadAndWritten(t *testing.T) {
	for _, x := range examples() {
		taken(t, x.m, x.s)
		if b := encoded(t, x.m); b != summed(x.s) {
			t.Errorf("%.80x: written %.80x", x.s, b)
		}
	}
	if s := encoded(t, api.Message{Kind: api.Report, Version: 1, Group: many}); len(s) != 24 {
		t.Errorf("%d bytes", len(s))
	}
}

// P9.1, R2, R3: addresses that are not of sixteen bytes are told ahead of all else.
func TestDecodeTellsWrongAddresses(t *testing.T) {
	report := summed(reportHead + many)
	for _, a := range wrongAddrs() {
		for _, s := range []string{"", report[:7], report, strings.Repeat("\x00", 8), strings.Repeat("x", 65536)} {
			fails(t, api.ErrArg, a, many, s)
			fails(t, api.ErrArg, host, a, s)
			fails(t, api.ErrArg, a, a, s)
		}
		fails(t, api.ErrArg, a, many, summedBetween(a, many, reportHead+many))
		fails(t, api.ErrArg, a, a, summedBetween(a, a, reportHead+many))
	}
}

// P9.1, R2: 65535 bytes are not too many; one more is, whatever they are.
func TestDecodeTellsTooManyBytes(t *testing.T) {
	padded := func(s string, n int) string { return s + strings.Repeat("p", n-len(s)) }
	for _, x := range examples() {
		if len(x.s) == 24 && x.s[0] == 130 {
			continue
		}
		taken(t, x.m, padded(x.s, 65534), padded(x.s, 65535))
		refused(t, api.ErrArg, padded(x.s, 65536), padded(x.s, 65537), padded(x.s, 200000))
	}
	refused(t, api.ErrForm, padded("\x00\x00??", 65535))
	fails(t, api.ErrSum, host, many, strings.Repeat("x", 65535))
	fails(t, api.ErrArg, host, many, strings.Repeat("x", 65536))
	fails(t, api.ErrArg, host, many, padded(summed(reportHead+many), 65536))
}

// P9.1, R2: seven bytes are too few, whatever they are and though their sum is right.
func TestDecodeTellsFewBytes(t *testing.T) {
	for _, x := range examples() {
		for n := range 8 {
			fails(t, api.ErrCut, host, many, summed(x.s)[:n])
			if n >= 4 {
				refused(t, api.ErrCut, x.s[:n])
			}
		}
	}
	for _, s := range []string{"", "\xff\xff", strings.Repeat("\x99", 7)} {
		fails(t, api.ErrCut, host, many, s)
	}
}

// turned is s with one bit turned.
func turned(s string, bit int) string {
	b := []byte(s)
	b[bit/8] ^= 1 << (bit % 8)
	return string(b)
}

// P9.1, R2: a sum that is wrong by one bit is told ahead of what is wrong in the text; the addresses and the length count in it.
func TestDecodeTellsWrongSums(t *testing.T) {
	for _, x := range examples() {
		for _, s := range []string{x.s, x.s + "p", x.s + "padding", "\x99" + x.s[1:], x.s[:8]} {
			s = summed(s)
			for bit := 0; bit < 8*len(s); bit += 1 + len(s)/200 {
				fails(t, api.ErrSum, host, many, turned(s, bit))
			}
			for bit := range 128 {
				fails(t, api.ErrSum, turned(host, bit), many, s)
				fails(t, api.ErrSum, host, turned(many, bit), s)
			}
			fails(t, api.ErrSum, host, many, s+"\x00")
			fails(t, api.ErrSum, host, many, s+"\x00\x00")
		}
	}
	fails(t, api.ErrSum, host, many, "\x83\x00\x00\x00\x00\x00\x00\x00"+many)
	fails(t, api.ErrSum, host, many, "\x83\x00\xff\xff\x00\x00\x00\x00"+many)
	fails(t, api.ErrSum, host, many, strings.Repeat("\x00", 8))
	fails(t, api.ErrSum, none, none, strings.Repeat("\x00", 24))
}

// P9.1: the sum is of protocol 58, and of the message with what stands ahead of it, not of itself alone.
func TestTheSumIsOfWhatStandsAheadToo(t *testing.T) {
	s := reportHead + many
	alone := s[:2] + two(65535-total(s[:2]+s[4:])) + s[4:]
	fails(t, api.ErrSum, host, many, alone)
	for _, proto := range []int{0, 2, 57, 59, 255} {
		ahead := host + many + "\x00\x00\x00\x18\x00\x00\x00" + byteOf(proto)
		fails(t, api.ErrSum, host, many, s[:2]+two(65535-total(ahead+s[:2]+s[4:]))+s[4:])
	}
	for _, way := range [][2]string{{none, none}, {host, host}, {other, other}, {many, host}, {none, other}} {
		m, e := mld.Decode(api.Addr(way[0]), api.Addr(way[1]), summedBetween(way[0], way[1], s))
		if e != api.OK || m.Group != many {
			t.Errorf("%x: %v, %d", way, m, e)
		}
	}
}

// P9.1: of a sum 0 and 65535 count alike, as csum.Right has it.
func TestSumsOfNoughtCountAlike(t *testing.T) {
	s := summed(reportHead + many)
	// The free bytes 4 and 5 take up the sum, so that what stands in its place is 0.
	s = s[:2] + "\x00\x00" + s[2:4] + s[6:]
	if summed(s) != s {
		t.Fatalf("%x", s)
	}
	for _, sum := range []string{"\x00\x00", "\xff\xff"} {
		if m, e := mld.Decode(host, many, s[:2]+sum+s[4:]); e != api.OK || m.Group != many {
			t.Errorf("%x: %v, %d", sum, m, e)
		}
	}
}

// P9.1: each first byte there is; those that the document does not name are no messages.
func TestDecodeOfEachFirstByte(t *testing.T) {
	known := map[int]api.Message{
		130: {Kind: api.Query, Version: 1, Group: many},
		131: {Kind: api.Report, Version: 1, Group: many},
		132: {Kind: api.Leave, Version: 1, Group: many},
		143: {Kind: api.Report, Version: 2},
	}
	for first := range 256 {
		s := byteOf(first) + reportHead[1:] + many
		if want, ok := known[first]; ok {
			taken(t, want, s)
			continue
		}
		for n := 8; n <= len(s); n++ {
			refused(t, api.ErrForm, s[:n])
		}
		refused(t, api.ErrForm, s+"\x00", s+"\x00\x00\x00\x00", byteOf(first)+reportHead[1:]+none)
	}
}

// P9.1, R2: a query of fewer than 24 bytes is cut, of 24 version 1, of 25 to 27 none, of more version 2.
func TestDecodeOfEachLengthOfAQuery(t *testing.T) {
	for _, g := range []string{many, host, none} {
		s := queryHead(40000) + g + "\x00\x00\x00\x00" + strings.Repeat("p", 30)
		want := api.Message{Kind: api.Query, Version: 1, Max: 40000, Group: api.Addr(g)}
		if g == none {
			want.Group = ""
		}
		for n := 8; n <= len(s); n++ {
			if n < 24 {
				refused(t, api.ErrCut, s[:n])
				continue
			}
			if 25 <= n && n <= 27 || g == host {
				refused(t, api.ErrForm, s[:n])
				continue
			}
			if n > 24 {
				want.Version, want.Max = 2, long(40000)
			}
			taken(t, want, s[:n])
		}
	}
	// Of 25 to 27 bytes it is none, whatever more would be told of them.
	s := queryHead(0) + many + "\x00\x00\xff\xff"
	refused(t, api.ErrForm, s[:25], s[:26], s[:27], s)
}

// P9.1: of version 1 Max is as it stands, of version 2 it is a code; so is Every, of one byte.
func TestDecodeReadsEachTime(t *testing.T) {
	for n := range 65536 {
		head := queryHead(n) + many
		taken(t, api.Message{Kind: api.Query, Version: 1, Max: n, Group: many}, head)
		every := short(n % 256)
		taken(t, api.Message{Kind: api.Query, Version: 2, Max: long(n), Every: every, Group: many}, head+"\x00"+byteOf(n)+"\x00\x00")
	}
}

// P9.1: Quiet and Robust stand in one byte, whose highest bits are free; so are bytes of the head, and what stands behind.
func TestDecodeReadsFlagsAndPassesOverTheRest(t *testing.T) {
	for n := range 256 {
		want := api.Message{Kind: api.Query, Version: 2, Group: many, Max: 7, Quiet: n&8 != 0, Robust: n & 7}
		s := queryHead(7) + many + byteOf(n) + "\x00\x00\x00"
		taken(t, want, s, s+"p", s+many)
		free := byteOf(n)
		taken(t, api.Message{Kind: api.Query, Version: 1, Max: 7}, "\x82"+free+"??\x00\x07"+free+free+none)
		taken(t, api.Message{Kind: api.Query, Version: 2, Max: 7}, "\x82"+free+"??\x00\x07"+free+free+none+"\x00\x00\x00\x00")
		taken(t, api.Message{Kind: api.Report, Version: 1, Group: other}, "\x83"+free+"??"+free+"\x01"+free+"\x02"+other, "\x83"+free+"??"+free+free+free+free+other+free)
		taken(t, api.Message{Kind: api.Leave, Version: 1, Group: other}, "\x84"+free+"??"+free+"\x01"+free+"\x02"+other, "\x84"+free+"??"+free+free+free+free+other+free)
		taken(t, api.Message{Kind: api.Report, Version: 2}, "\x8f"+free+"??"+free+"\x01\x00\x00", "\x8f"+free+"??"+free+free+"\x00\x00"+free)
	}
}

// P9.1, R2: 60 Sources are not too many; 61 are, which is told ahead of bytes that are lacking, and those ahead of a Group that is none.
func TestDecodeOfEachCountOfSources(t *testing.T) {
	for n := range 61 {
		l := sources(n, 16)
		s := queryHead(5) + many + "\x02\x03" + two(n) + joined(l)
		taken(t, api.Message{Kind: api.Query, Version: 2, Max: 5, Group: many, Robust: 2, Every: 3, Sources: l}, s, s+"p", s+host)
		if n == 0 {
			continue
		}
		for _, g := range []string{many, host, none} {
			head := queryHead(5) + g + "\x02\x03" + two(n)
			refused(t, api.ErrCut, head, head+joined(l)[:16*n-1], head+joined(l)[:16*n-16], head+joined(l)[:15])
		}
		refused(t, api.ErrForm, queryHead(5)+none+"\x02\x03"+two(n)+joined(l), queryHead(5)+host+"\x02\x03"+two(n)+joined(l))
	}
	for _, n := range []int{61, 62, 255, 256, 300, 316, 65535} {
		for _, g := range []string{many, host, none} {
			s := queryHead(5) + g + "\x02\x03" + two(n)
			refused(t, api.ErrForm, s, s+host, s+joined(sources(min(n, 4000), 16)))
		}
	}
}

// P9.1: ff begins a group; sixteen bytes 0 are none, which only a query may have.
func TestDecodeOfEachGroup(t *testing.T) {
	for first := range 256 {
		for _, rest := range []string{many[1:], none[1:], other[1:]} {
			g := byteOf(first) + rest
			is := func(m api.Message, s string) {
				t.Helper()
				if first == 255 {
					m.Group = api.Addr(g)
				}
				if first == 255 || g == none && m.Kind == api.Query {
					taken(t, m, s)
					return
				}
				refused(t, api.ErrForm, s)
			}
			is(api.Message{Kind: api.Query, Version: 1}, queryHead(0)+g)
			is(api.Message{Kind: api.Query, Version: 2}, queryHead(0)+g+"\x00\x00\x00\x00")
			is(api.Message{Kind: api.Report, Version: 1}, reportHead+g)
			is(api.Message{Kind: api.Leave, Version: 1}, leaveHead+g)
		}
	}
	refused(t, api.ErrForm, queryHead(0)+none[1:]+"\x01", queryHead(0)+none[1:]+"\x01\x00\x00\x00\x00")
}

// P9.1, R2: a report or a leave of fewer than 24 bytes is cut, whatever its Group would be; what stands behind counts for nothing.
func TestDecodeOfEachLengthOfAReport(t *testing.T) {
	for _, g := range []string{many, host, none} {
		for n := 8; n <= 60; n++ {
			report, leave := (reportHead + g + joined(sources(3, 16)))[:n], (leaveHead + g + joined(sources(3, 16)))[:n]
			switch {
			case n < 24:
				refused(t, api.ErrCut, report, leave)
			case g == many:
				taken(t, api.Message{Kind: api.Report, Version: 1, Group: many}, report)
				taken(t, api.Message{Kind: api.Leave, Version: 1, Group: many}, leave)
			default:
				refused(t, api.ErrForm, report, leave)
			}
		}
	}
}

// P9.1: 30 Records are not too many; more are, whatever stands there.
func TestDecodeOfEachCountOfRecords(t *testing.T) {
	one := record(2, 1, many, sources(1, 16))
	var want []api.Record
	for n := range 31 {
		s := listHead(n) + strings.Repeat(one, n)
		taken(t, api.Message{Kind: api.Report, Version: 2, Records: want}, s, s+"p", s+one)
		if n > 0 {
			refused(t, api.ErrCut, s[:len(s)-1], s[:len(s)-len(one)], s[:8])
		}
		want = append(want, api.Record{Kind: 2, Group: many, Sources: sources(1, 16)})
	}
	for _, n := range []int{31, 32, 255, 256, 65535} {
		refused(t, api.ErrForm, listHead(n), listHead(n)+one, listHead(n)+strings.Repeat(one, min(n, 1000)))
	}
}

// P9.1, R2: what is wrong in records is told as igmp.Records tells it, of sixteen bytes; kinds that there are none of are passed over.
func TestDecodeTellsRecordsErrors(t *testing.T) {
	whole := record(1, 0, many, sources(2, 16))
	wrong := record(1, 0, host, nil)
	much := record(1, 0, many, sources(61, 16))
	full := record(1, 0, many, sources(60, 16))
	cut := whole[:len(whole)-1]
	refused(t, api.ErrForm, listHead(1)+wrong, listHead(1)+much, listHead(2)+wrong+cut, listHead(2)+much+cut, listHead(3)+whole+wrong+cut)
	refused(t, api.ErrForm, listHead(1)+record(9, 0, many, sources(61, 16)), listHead(1)+record(0, 0, none, nil))
	refused(t, api.ErrCut, listHead(1), listHead(1)+cut, listHead(2)+whole, listHead(2)+whole+cut, listHead(1)+much[:len(much)-1], listHead(1)+wrong[:19])
	refused(t, api.ErrCut, listHead(1)+"\x01\x00\x00\x00\xe0\x01\x02\x03")
	taken(t, api.Message{Kind: api.Report, Version: 2, Records: []api.Record{{Kind: 1, Group: many, Sources: sources(2, 16)}}}, listHead(1)+whole+wrong, listHead(2)+record(7, 2, many, nil)+whole)
	taken(t, api.Message{Kind: api.Report, Version: 2, Records: []api.Record{{Kind: 1, Group: many, Sources: sources(60, 16)}}}, listHead(1)+full)
	for kind := range 256 {
		body := record(kind, kind%3, many, sources(kind%4, 16)) + record(3, 0, other, nil)
		l, e := igmp.Records(body, 2, 16)
		if e != api.OK {
			t.Fatalf("%x: %d", body, e)
		}
		taken(t, api.Message{Kind: api.Report, Version: 2, Records: l}, listHead(2)+body)
	}
}

// P9.2, R3: addresses that are not of sixteen bytes, of messages that may be and may not.
func TestEncodeTellsWrongAddresses(t *testing.T) {
	refuses := func(src string, dst string, m api.Message) {
		t.Helper()
		if s, e := mld.Encode(api.Addr(src), api.Addr(dst), m); s != "" || e != api.ErrArg {
			t.Errorf("%x to %x: %.80v: %x, %d", src, dst, m, s, e)
		}
	}
	for _, a := range wrongAddrs() {
		for _, x := range append(examples(), example{}) {
			refuses(a, many, x.m)
			refuses(host, a, x.m)
			refuses(a, a, x.m)
		}
	}
}

// wrongGroups are no groups, and are not none.
func wrongGroups() []api.Addr {
	return []api.Addr{host, none, api.Addr(many[:15]), many + "\x00", "\xff", "\xe0\x01\x02\x03", api.Addr("\xfe" + many[1:])}
}

// with is m, changed.
func with(m api.Message, change func(m *api.Message)) api.Message {
	change(&m)
	return m
}

// notAsked are queries that may not be, each for one reason.
func notAsked() []api.Message {
	one := []api.Addr{host}
	list := []api.Record{{Kind: 1, Group: many}}
	v1 := api.Message{Kind: api.Query, Version: 1, Max: 10, Group: many}
	v2 := api.Message{Kind: api.Query, Version: 2, Max: 10, Group: many}
	var out []api.Message
	add := func(m api.Message, change func(m *api.Message)) { out = append(out, with(m, change)) }
	for _, v := range []int{0, 3, 4, -1, 257, 258, math.MinInt, math.MaxInt} {
		add(v1, func(m *api.Message) { m.Version = v })
	}
	for _, q := range []api.Message{v1, v2} {
		add(q, func(m *api.Message) { m.Records = list })
		add(q, func(m *api.Message) { m.Max = -1 })
		add(q, func(m *api.Message) { m.Max = math.MinInt })
		add(q, func(m *api.Message) { m.Max = math.MaxInt })
		for _, g := range wrongGroups() {
			add(q, func(m *api.Message) { m.Group = g })
		}
	}
	add(v1, func(m *api.Message) { m.Max = 65536 })
	add(v1, func(m *api.Message) { m.Max = 1 << 20 })
	add(v1, func(m *api.Message) { m.Quiet = true })
	add(v1, func(m *api.Message) { m.Robust = 1 })
	add(v1, func(m *api.Message) { m.Every = 1 })
	add(v1, func(m *api.Message) { m.Sources = one })
	for _, n := range []int{-1, 8, 9, 15, 16, 255, 256, math.MinInt, math.MaxInt} {
		add(v2, func(m *api.Message) { m.Robust = n })
		add(v2, func(m *api.Message) { m.Robust, m.Quiet = n, true })
	}
	for _, n := range []int{-1, 129, 31743, 31745, 65536, math.MinInt, math.MaxInt} {
		add(v2, func(m *api.Message) { m.Every = n })
	}
	for _, n := range []int{32769, 8387583, 8387585, 1 << 23, 1 << 40} {
		add(v2, func(m *api.Message) { m.Max = n })
	}
	for _, l := range [][]api.Addr{sources(61, 16), sources(316, 16), sources(65536, 16), {""}, {"abcd"}, sources(1, 15), sources(1, 17), append(sources(3, 16), api.Addr(many[:15])), append(sources(1, 15), sources(1, 17)...)} {
		add(v2, func(m *api.Message) { m.Sources = l })
	}
	add(v2, func(m *api.Message) { m.Group, m.Sources = "", one })
	return out
}

// notTold are reports and leaves that may not be, each for one reason.
func notTold() []api.Message {
	list := []api.Record{{Kind: 1, Group: many}}
	report := api.Message{Kind: api.Report, Version: 1, Group: many}
	leave := api.Message{Kind: api.Leave, Version: 1, Group: many}
	records := api.Message{Kind: api.Report, Version: 2, Records: list}
	var out []api.Message
	add := func(m api.Message, change func(m *api.Message)) { out = append(out, with(m, change)) }
	for _, q := range []api.Message{report, leave, records} {
		for _, n := range []int{1, -1, 65535, 65536} {
			add(q, func(m *api.Message) { m.Max = n })
			add(q, func(m *api.Message) { m.Robust = n })
			add(q, func(m *api.Message) { m.Every = n })
		}
		add(q, func(m *api.Message) { m.Quiet = true })
		add(q, func(m *api.Message) { m.Sources = []api.Addr{host} })
		for _, v := range []int{0, 3, -1, 257, 258, math.MinInt, math.MaxInt} {
			add(q, func(m *api.Message) { m.Version = v })
		}
		for _, k := range []int{0, 4, -1, 257, 130, math.MinInt, math.MaxInt} {
			add(q, func(m *api.Message) { m.Kind = k })
		}
	}
	for _, q := range []api.Message{report, leave} {
		add(q, func(m *api.Message) { m.Records = list })
		add(q, func(m *api.Message) { m.Version = 2 })
		for _, g := range append(wrongGroups(), "") {
			add(q, func(m *api.Message) { m.Group = g })
		}
	}
	add(records, func(m *api.Message) { m.Kind = api.Leave })
	add(records, func(m *api.Message) { m.Version = 1 })
	for _, g := range []api.Addr{many, host, none, "\xff"} {
		add(records, func(m *api.Message) { m.Group = g })
	}
	for _, bad := range []api.Record{{}, {Kind: 0, Group: many}, {Kind: 7, Group: many}, {Kind: 1}, {Kind: 1, Group: host}, {Kind: 1, Group: "\xe0\x01\x02\x03"}, {Kind: 1, Group: many, Sources: sources(61, 16)}, {Kind: 1, Group: many, Sources: sources(1, 4)}} {
		add(records, func(m *api.Message) { m.Records = []api.Record{bad} })
		add(records, func(m *api.Message) { m.Records = []api.Record{list[0], bad} })
	}
	for _, n := range []int{31, 32, 286, 65536, 65537} {
		add(records, func(m *api.Message) { m.Records = slices.Repeat(list, n) })
	}
	return append(out, api.Message{})
}

// P9.2, R3: each condition under which a message may not be.
func TestEncodeTellsWhatMayNotBe(t *testing.T) {
	unwritten(t, notAsked()...)
	unwritten(t, notTold()...)
}

// P9.2, P9.3: a query's numbers, all that may be and none else.
func TestEncodeOfEachNumberOfAQuery(t *testing.T) {
	shorts, longs := map[int]bool{}, map[int]bool{}
	for c := range 65536 {
		shorts[short(c%256)], longs[long(c)] = true, true
	}
	holds := func(m api.Message, may bool) {
		t.Helper()
		if !may {
			unwritten(t, m)
			return
		}
		taken(t, m, encoded(t, m))
	}
	for n := -10; n < 70000; n++ {
		holds(api.Message{Kind: api.Query, Version: 1, Max: n}, 0 <= n && n <= 65535)
		holds(api.Message{Kind: api.Query, Version: 2, Max: n}, longs[n])
		if n < 33000 {
			holds(api.Message{Kind: api.Query, Version: 2, Every: n}, shorts[n])
		}
		if n < 300 {
			holds(api.Message{Kind: api.Query, Version: 2, Robust: n}, 0 <= n && n <= 7)
			holds(api.Message{Kind: api.Query, Version: 2, Robust: n, Quiet: true}, 0 <= n && n <= 7)
		}
	}
	for c := range 65536 {
		for n := long(c) - 1; n <= long(c)+1; n++ {
			holds(api.Message{Kind: api.Query, Version: 2, Max: n, Group: many}, longs[n])
		}
	}
}

// P9.2, P9.3: a query of version 1 writes Max as it is, of version 2 its code, from 32768 on.
func TestEncodeWritesMax(t *testing.T) {
	for n, want := range map[int]string{0: "\x00\x00", 1: "\x00\x01", 32767: "\x7f\xff", 32768: "\x80\x00", 65535: "\xff\xff"} {
		if s := encoded(t, api.Message{Kind: api.Query, Version: 1, Max: n}); s[4:6] != want {
			t.Errorf("version 1, %d: %x", n, s)
		}
	}
	for n, want := range map[int]string{0: "\x00\x00", 32767: "\x7f\xff", 32768: "\x80\x00", 32776: "\x80\x01", 65536: "\x90\x00", 8387584: "\xff\xff"} {
		if s := encoded(t, api.Message{Kind: api.Query, Version: 2, Max: n}); s[4:6] != want {
			t.Errorf("version 2, %d: %x", n, s)
		}
	}
}

// P9.3: what was encoded is decoded, from the same address to the same one, and from no other.
func TestWhatWasEncodedIsDecoded(t *testing.T) {
	ways := [][2]api.Addr{{host, many}, {none, other}, {many, host}, {other, other}, {"0123456789abcdef", "fedcba9876543210"}}
	for _, x := range examples() {
		for _, way := range ways {
			s, e := mld.Encode(way[0], way[1], x.m)
			if s != summedBetween(string(way[0]), string(way[1]), x.s) || e != api.OK {
				t.Errorf("%x: %.80x, %d", way, s, e)
			}
			if m, e := mld.Decode(way[0], way[1], s); !same(m, x.m) || e != api.OK {
				t.Errorf("%.80x: %v, %d", s, m, e)
			}
			fails(t, api.ErrSum, turned(string(way[0]), 9), string(way[1]), s)
		}
	}
	for n := range 61 {
		m := api.Message{Kind: api.Query, Version: 2, Max: long(1000 * n), Group: other, Quiet: n%2 == 0, Robust: n % 8, Every: short(255 - n), Sources: sources(n, 16)}
		taken(t, m, encoded(t, m))
		m = api.Message{Kind: api.Report, Version: 2}
		for i := range n % 31 {
			m.Records = append(m.Records, api.Record{Kind: (n+i)%6 + 1, Group: many, Sources: sources((n*i)%61, 16)})
		}
		taken(t, m, encoded(t, m))
	}
	m := api.Message{Kind: api.Report, Version: 2}
	for i := range 30 {
		m.Records = append(m.Records, api.Record{Kind: i%6 + 1, Group: other, Sources: sources(60, 16)})
	}
	taken(t, m, encoded(t, m))
}

// R3: a list without elements may be handed in where there is none.
func TestEncodeTakesEmptyLists(t *testing.T) {
	for _, x := range examples() {
		m := x.m
		if len(m.Sources) == 0 {
			m.Sources = []api.Addr{}
		}
		if len(m.Records) == 0 {
			m.Records = []api.Record{}
		}
		if s := encoded(t, m); s != summed(x.s) {
			t.Errorf("%.80x: written %.80x", x.s, s)
		}
	}
}

// R1: whatever bytes there are, Decode ends, and what it takes is read again as it was.
func TestNoBytesAreTooMuch(t *testing.T) {
	seed := uint32(9)
	read := 0
	for _, x := range examples() {
		for range 2000 {
			b := []byte(x.s)
			for range 3 {
				seed = seed*1664525 + 1013904223
				at := seed >> 8 % uint32(len(b))
				if seed>>7%2 == 0 {
					at %= 30
				}
				b[at%uint32(len(b))] = byte(seed >> 24)
			}
			s := summed(string(b[:len(b)-int(seed>>16%2)*int(seed>>20%3)]) + "????"[:seed>>18%5])
			m, e := mld.Decode(host, many, s)
			if e != api.OK {
				fails(t, e, host, many, s)
				continue
			}
			taken(t, m, encoded(t, m))
			read++
		}
	}
	if read == 0 {
		t.Error("none was read")
	}
}

// R5: no part of what is read shares the text's memory, and no two lists share any, nor their spare room.
func TestDecodeAnswersNewMemory(t *testing.T) {
	for _, x := range examples() {
		s := summed(x.s)
		m, e := mld.Decode(host, many, s)
		if e != api.OK {
			t.Fatalf("%x: %d", s, e)
		}
		parts := append([]api.Addr{m.Group}, m.Sources...)
		for _, r := range m.Records {
			parts = append(append(parts, r.Group), r.Sources...)
		}
		for _, part := range parts {
			if inside(string(part), s) {
				t.Errorf("%.80x: %x shares its memory", s, part)
			}
		}
		for i := range m.Records {
			_ = append(m.Records[i].Sources, "more")
		}
		_ = append(m.Sources, "more")
		if !same(m, x.m) {
			t.Errorf("%.80x: lists share memory: %v", s, m)
		}
	}
}

// R5, R6: what is handed in is not changed, and the same again is the same.
func TestEncodeChangesNothing(t *testing.T) {
	for i, x := range examples() {
		if a, b := encoded(t, x.m), encoded(t, x.m); a != b {
			t.Errorf("%.80x, then %.80x", a, b)
		}
		if !same(x.m, examples()[i].m) {
			t.Errorf("%v", x.m)
		}
	}
}

// inside tells whether part's bytes stand where s keeps its own.
func inside(part string, s string) bool {
	if part == "" {
		return false
	}
	at := uintptr(unsafe.Pointer(unsafe.StringData(part)))
	first := uintptr(unsafe.Pointer(unsafe.StringData(s)))
	return first <= at && at < first+uintptr(len(s))
}
