package igmp

import (
	"strings"

	"siphon/api"
	"siphon/code"
	"siphon/octet"
)

// writer gathers a message's bytes; whatever it writes may be. The sum's place is left 0.
type writer struct {
	strings.Builder
}

func (w *writer) number(n int, width int) {
	s, _ := octet.Put(n, width)
	w.WriteString(s)
}

// code writes a time that has one.
func (w *writer) code(n int) {
	c, _ := code.Enc8(n)
	w.number(c, 1)
}

func (w *writer) addrs(l ...api.Addr) {
	for _, a := range l {
		w.WriteString(string(a))
	}
}

func (w *writer) record(r api.Record) {
	w.number(r.Kind, 1)
	w.number(0, 1)
	w.number(len(r.Sources), 2)
	w.addrs(r.Group)
	w.addrs(r.Sources...)
}

func (w *writer) query(m api.Message) {
	w.number(queryByte, 1)
	if m.Version == 3 {
		w.code(m.Max)
	} else {
		w.number(m.Max, 1)
	}
	w.number(0, 2)
	if m.Group == "" {
		w.addrs(noGroup)
	}
	w.addrs(m.Group)
	if m.Version == 3 {
		w.details(m)
	}
}

// details writes what only a query of version 3 tells.
func (w *writer) details(m api.Message) {
	flags := m.Robust
	if m.Quiet {
		flags |= quietBit
	}
	w.number(flags, 1)
	w.code(m.Every)
	w.number(len(m.Sources), 2)
	w.addrs(m.Sources...)
}

// one writes a message of one group.
func (w *writer) one(m api.Message) {
	first, _ := oneByte(m)
	w.number(first, 1)
	w.number(0, 1)
	w.number(0, 2)
	w.addrs(m.Group)
}

// records writes a report of version 3.
func (w *writer) records(m api.Message) {
	w.number(report3Byte, 1)
	w.number(0, 1)
	w.number(0, 4)
	w.number(len(m.Records), 2)
	for _, r := range m.Records {
		w.record(r)
	}
}

// oneByte is what a message of one group begins with, and whether there is such a message.
func oneByte(m api.Message) (int, bool) {
	switch {
	case m.Kind == api.Report && m.Version == 1:
		return report1Byte, true
	case m.Kind == api.Report && m.Version == 2:
		return report2Byte, true
	case m.Kind == api.Leave && m.Version == 2:
		return leaveByte, true
	}
	return 0, false
}
