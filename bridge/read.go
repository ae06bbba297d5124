package bridge

import (
	"siphon/api"
	"siphon/ether"
	"siphon/igmp"
	"siphon/ipv4"
	"siphon/ipv6"
	"siphon/mld"
)

// What a frame's Type, and then a packet's Proto or Next, says.
const (
	type4    = 0x0800
	type6    = 0x86dd
	saysIgmp = 2
	saysMld  = 58
)

// mldHops is the Hop of messages: they are not for those who are farther off.
const mldHops = 1

// What may be read in a frame: a query, a report or a leave (both are records), or data to a group.
type query struct{ from api.Addr }

type report []api.Record

type data struct {
	from api.Addr
	to   api.Addr
}

// read is one of these, or nil.
func read(f api.Frame) any {
	switch f.Type {
	case type4:
		return read4(f.Data)
	case type6:
		return read6(f.Data)
	}
	return nil
}

func read4(s string) any {
	p, e := ipv4.Decode(s)
	if e != api.OK || !isGroup(p.Dst) {
		return nil
	}
	if p.Proto == saysIgmp {
		if m, e := igmp.Decode(p.Data); e == api.OK {
			return said(m, p.Src)
		}
	}
	return data{from: p.Src, to: p.Dst}
}

func read6(s string) any {
	p, e := ipv6.Decode(s)
	if e != api.OK || !isGroup(p.Dst) {
		return nil
	}
	if p.Next == saysMld && p.Hop == mldHops && p.Alert {
		if m, e := mld.Decode(p.Src, p.Dst, p.Data); e == api.OK {
			return said(m, p.Src)
		}
	}
	return data{from: p.Src, to: p.Dst}
}

// said is what a message says: of a group by itself the same as a record would.
func said(m api.Message, from api.Addr) any {
	switch {
	case m.Kind == api.Query:
		return query{from: from}
	case m.Kind == api.Leave:
		return report{{Kind: api.ToIn, Group: m.Group}}
	case m.Group != "":
		return report{{Kind: api.IsEx, Group: m.Group}}
	}
	return report(m.Records)
}

func isGroup(a api.Addr) bool {
	_, e := ether.Group(a)
	return e == api.OK
}
