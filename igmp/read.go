package igmp

import (
	"siphon/api"
	"siphon/code"
	"siphon/octet"
)

// number is that of so many bytes at a place; they stand there.
func number(s string, at int, width int) int {
	n, _ := octet.Get(s, at, width)
	return n
}

// addrAt is the address of a size at a place; it stands there.
func addrAt(s string, at int, size int) api.Addr {
	a, _ := octet.Cut(s, at, size)
	return api.Addr(a)
}

// addrsAt are n addresses from a place on; they stand there.
func addrsAt(s string, at int, n int, size int) []api.Addr {
	var l []api.Addr
	for i := range n {
		l = append(l, addrAt(s, at+i*size, size))
	}
	return l
}

// recordAt is the record at a place, and how many bytes it has. That it is cut is told ahead of what is wrong in it.
func recordAt(s string, at int, size int) (api.Record, int, api.Errno) {
	count, e := octet.Get(s, at+countAt, 2)
	if e != api.OK {
		return api.Record{}, 0, e
	}
	from := at + recordGroupAt + size
	end := from + count*size + spareWord*number(s, at+spareAt, 1)
	if end > len(s) {
		return api.Record{}, 0, api.ErrCut
	}
	group := addrAt(s, at+recordGroupAt, size)
	if count > api.MaxSources || !isGroup(group, size) {
		return api.Record{}, 0, api.ErrForm
	}
	r := api.Record{Kind: number(s, at, 1), Group: group, Sources: addrsAt(s, from, count, size)}
	return r, end - at, api.OK
}

// readQuery reads a query whose head stands in s.
func readQuery(s string) (api.Message, api.Errno) {
	m := api.Message{Kind: api.Query, Version: 1, Max: number(s, maxAt, 1)}
	if g := addrAt(s, groupAt, addrSize); g != noGroup {
		m.Group = g
	}
	if m.Max != 0 {
		m.Version = 2
	}
	if len(s) > headSize {
		if e := readDetails(&m, s); e != api.OK {
			return api.Message{}, e
		}
	}
	if !groupMayBe(m) {
		return api.Message{}, api.ErrForm
	}
	return m, api.OK
}

// readDetails adds to a query what version 3 tells otherwise, and more.
func readDetails(m *api.Message, s string) api.Errno {
	if len(s) < queryHead3 {
		return api.ErrForm
	}
	count := number(s, sourcesAt, 2)
	if count > api.MaxSources {
		return api.ErrForm
	}
	if len(s) < queryHead3+count*addrSize {
		return api.ErrCut
	}
	flags := number(s, robustAt, 1)
	m.Version = 3
	m.Max, _ = code.Dec8(number(s, maxAt, 1))
	m.Quiet, m.Robust = flags&quietBit != 0, flags&mostRobust
	m.Every, _ = code.Dec8(number(s, everyAt, 1))
	m.Sources = addrsAt(s, queryHead3, count, addrSize)
	return api.OK
}

// readOne reads a message of one group whose head stands in s.
func readOne(s string, kind int, version int) (api.Message, api.Errno) {
	g := addrAt(s, groupAt, addrSize)
	if !isGroup(g, addrSize) {
		return api.Message{}, api.ErrForm
	}
	return api.Message{Kind: kind, Version: version, Group: g}, api.OK
}

// readRecords reads a report of version 3 whose head stands in s.
func readRecords(s string) (api.Message, api.Errno) {
	l, e := Records(s[headSize:], number(s, recordsAt, 2), addrSize)
	if e != api.OK {
		return api.Message{}, e
	}
	return api.Message{Kind: api.Report, Version: 3, Records: l}, api.OK
}
