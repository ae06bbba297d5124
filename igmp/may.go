package igmp

import (
	"siphon/api"
	"siphon/code"
	"siphon/ether"
)

// isSize tells whether records may be of addresses of such a size.
func isSize(size int) bool { return size == addrSize || size == addrSize6 }

// isKind tells whether there is such a kind of records.
func isKind(kind int) bool { return api.IsIn <= kind && kind <= api.Block }

// isGroup tells whether a is a group of the size.
func isGroup(a api.Addr, size int) bool {
	_, e := ether.Group(a)
	return len(a) == size && e == api.OK
}

// isCoded tells whether n is just the number of a code.
func isCoded(n int) bool {
	c, e := code.Enc8(n)
	back, _ := code.Dec8(c)
	return e == api.OK && back == n
}

// sourcesMayBe tells whether there are not too many, each of the size.
func sourcesMayBe(l []api.Addr, size int) bool {
	for _, a := range l {
		if len(a) != size {
			return false
		}
	}
	return len(l) <= api.MaxSources
}

// recordMayBe tells whether a record can be written so that it is read again.
func recordMayBe(r api.Record, size int) bool {
	return isKind(r.Kind) && isGroup(r.Group, size) && sourcesMayBe(r.Sources, size)
}

// mayBe tells whether a message can be written so that it is read again.
func mayBe(m api.Message) bool {
	switch m.Kind {
	case api.Query:
		return len(m.Records) == 0 && groupMayBe(m) && queryMayBe(m)
	case api.Report, api.Leave:
		return m.Max == 0 && !isDetailed(m) && tellingMayBe(m)
	}
	return false
}

// groupMayBe tells whether a query's Group is one, or none, and without Sources then.
func groupMayBe(m api.Message) bool {
	if m.Group == "" {
		return len(m.Sources) == 0
	}
	return isGroup(m.Group, addrSize)
}

// isDetailed tells whether m has something that only a query of version 3 may have.
func isDetailed(m api.Message) bool {
	return m.Quiet || m.Robust != 0 || m.Every != 0 || len(m.Sources) != 0
}

// queryMayBe tells whether a query has what belongs to its version.
func queryMayBe(m api.Message) bool {
	switch m.Version {
	case 1:
		return m.Max == 0 && !isDetailed(m)
	case 2:
		return 1 <= m.Max && m.Max <= 255 && !isDetailed(m)
	case 3:
		return isCoded(m.Max) && isCoded(m.Every) && 0 <= m.Robust && m.Robust <= mostRobust && sourcesMayBe(m.Sources, addrSize)
	}
	return false
}

// tellingMayBe tells whether a report or a leave has what belongs to its version.
func tellingMayBe(m api.Message) bool {
	if m.Kind == api.Report && m.Version == 3 {
		_, e := Body(m.Records, addrSize)
		return m.Group == "" && e == api.OK
	}
	_, known := oneByte(m)
	return known && isGroup(m.Group, addrSize) && len(m.Records) == 0
}
