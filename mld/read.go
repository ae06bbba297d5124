package mld

import (
	"siphon/api"
	"siphon/code"
	"siphon/igmp"
	"siphon/octet"
)

// reader reads a text's parts one behind the other. What it reads behind its first error counts for nothing.
type reader struct {
	fault
	s  string
	at int
}

// left is how many bytes are still to be read; it is below 0 where some were lacking.
func (r *reader) left() int { return len(r.s) - r.at }

func (r *reader) skip(n int) { r.at += n }

func (r *reader) number(width int) int {
	n, e := octet.Get(r.s, r.at, width)
	r.keep(e)
	r.skip(width)
	return n
}

func (r *reader) addr() api.Addr {
	a, e := octet.Cut(r.s, r.at, addrSize)
	r.keep(e)
	r.skip(addrSize)
	return api.Addr(a)
}

func (r *reader) addrs(n int) []api.Addr {
	var l []api.Addr
	for r.e == api.OK && len(l) < n {
		l = append(l, r.addr())
	}
	return l
}

// message reads a whole one, whose head stands there.
func (r *reader) message() api.Message {
	first := r.number(1)
	r.skip(3) // a free byte, and the sum
	switch first {
	case queryByte:
		return r.query()
	case report1Byte:
		return r.one(api.Report)
	case leaveByte:
		return r.one(api.Leave)
	case report2Byte:
		return r.records()
	}
	r.keep(api.ErrForm)
	return api.Message{}
}

func (r *reader) query() api.Message {
	m := api.Message{Kind: api.Query, Version: 1, Max: r.number(2)}
	r.skip(2)
	if g := r.addr(); g != noGroup {
		m.Group = g
	}
	if r.left() > 0 {
		r.details(&m)
	}
	r.need(groupMayBe(m), api.ErrForm)
	return m
}

// details adds to a query what version 2 tells otherwise, and more.
func (r *reader) details(m *api.Message) {
	r.need(r.left() >= detailsHead, api.ErrForm)
	m.Version = 2
	m.Max, _ = code.Dec16(m.Max)
	flags := r.number(1)
	m.Quiet, m.Robust = flags&quietBit != 0, flags&mostRobust
	m.Every, _ = code.Dec8(r.number(1))
	count := r.number(2)
	r.need(count <= api.MaxSources, api.ErrForm)
	m.Sources = r.addrs(count)
}

// one reads a message of one group.
func (r *reader) one(kind int) api.Message {
	r.skip(4)
	m := api.Message{Kind: kind, Version: 1, Group: r.addr()}
	r.need(isGroup(m.Group), api.ErrForm)
	return m
}

// records reads a report of version 2.
func (r *reader) records() api.Message {
	r.skip(2)
	count := r.number(2)
	l, e := igmp.Records(r.s[r.at:], count, addrSize)
	r.keep(e)
	return api.Message{Kind: api.Report, Version: 2, Records: l}
}
