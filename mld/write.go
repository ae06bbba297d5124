package mld

import (
	"strings"

	"siphon/api"
	"siphon/code"
	"siphon/igmp"
	"siphon/octet"
)

// writer gathers a message's bytes, and tells whether it may be. Behind its first error it gathers no more. The sum's place is left 0.
type writer struct {
	fault
	b strings.Builder
}

func (w *writer) may(holds bool) { w.need(holds, api.ErrArg) }

// text writes what a call has told, or keeps its error.
func (w *writer) text(s string, e api.Errno) {
	w.keep(e)
	if w.e == api.OK {
		w.b.WriteString(s)
	}
}

func (w *writer) number(n int, width int) { w.text(octet.Put(n, width)) }

// code writes a time as a code of one byte or two; it must be just the number of one.
func (w *writer) code(n int, width int) {
	encode, decode := code.Enc8, code.Dec8
	if width == 2 {
		encode, decode = code.Enc16, code.Dec16
	}
	c, e := encode(n)
	w.keep(e)
	back, _ := decode(c)
	w.may(back == n)
	w.number(c, width)
}

func (w *writer) addrs(l ...api.Addr) {
	for _, a := range l {
		w.may(len(a) == addrSize)
		w.text(string(a), api.OK)
	}
}

// message writes a whole one.
func (w *writer) message(m api.Message) {
	switch m.Kind {
	case api.Query:
		w.may(len(m.Records) == 0)
		w.query(m)
	case api.Report, api.Leave:
		w.may(m.Max == 0 && !isDetailed(m))
		w.telling(m)
	default:
		w.keep(api.ErrArg)
	}
}

// first writes what a message begins with, and the sum's place.
func (w *writer) first(b int) {
	w.number(b, 1)
	w.number(0, 3)
}

func (w *writer) query(m api.Message) {
	w.first(queryByte)
	if m.Version == 2 {
		w.code(m.Max, 2)
	} else {
		w.may(m.Version == 1 && !isDetailed(m))
		w.number(m.Max, 2)
	}
	w.number(0, 2)
	w.may(groupMayBe(m))
	if m.Group == "" {
		w.addrs(noGroup)
	} else {
		w.addrs(m.Group)
	}
	if m.Version == 2 {
		w.details(m)
	}
}

// details writes what only a query of version 2 tells.
func (w *writer) details(m api.Message) {
	w.may(0 <= m.Robust && m.Robust <= mostRobust)
	flags := m.Robust
	if m.Quiet {
		flags |= quietBit
	}
	w.number(flags, 1)
	w.code(m.Every, 1)
	w.may(len(m.Sources) <= api.MaxSources)
	w.number(len(m.Sources), 2)
	w.addrs(m.Sources...)
}

// telling writes a report or a leave.
func (w *writer) telling(m api.Message) {
	switch {
	case m.Kind == api.Report && m.Version == 2:
		w.records(m)
	case m.Kind == api.Report:
		w.one(m, report1Byte)
	default:
		w.one(m, leaveByte)
	}
}

// one writes a message of one group.
func (w *writer) one(m api.Message, b int) {
	w.may(m.Version == 1 && isGroup(m.Group) && len(m.Records) == 0)
	w.first(b)
	w.number(0, 4)
	w.addrs(m.Group)
}

// records writes a report of version 2.
func (w *writer) records(m api.Message) {
	w.may(m.Group == "")
	w.first(report2Byte)
	w.number(0, 2)
	w.number(len(m.Records), 2)
	w.text(igmp.Body(m.Records, addrSize))
}
