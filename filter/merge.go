package filter

import (
	"slices"

	"siphon/api"
)

// join is the filter that admits what admits says, by whether f and g do.
func join(f, g api.Filter, admits func(byF, byG bool) bool) api.Filter {
	// Whoever stands in neither list goes by both Excepts: that is the new one.
	except := admits(f.Except, g.Except)
	stays := func(inF, inG bool) bool {
		return admits(inF != f.Except, inG != g.Except) != except
	}
	return api.Filter{Except: except, Sources: merge(rising(f.Sources), rising(g.Sources), stays)}
}

// without is what stands in a and not in b; both rise.
func without(a, b []api.Addr) []api.Addr {
	return merge(a, b, func(inA, inB bool) bool { return inA && !inB })
}

// merge goes through two rising lists at once: what stays, each once, rises too.
func merge[T ~string](a, b []T, stays func(inA, inB bool) bool) []T {
	var out []T
	for len(a) > 0 || len(b) > 0 {
		inA := len(b) == 0 || len(a) > 0 && a[0] <= b[0]
		inB := len(a) == 0 || len(b) > 0 && b[0] <= a[0]
		var least T
		if inA {
			least, a = a[0], a[1:]
		}
		if inB {
			least, b = b[0], b[1:]
		}
		if stays(inA, inB) {
			out = append(out, least)
		}
	}
	return out
}

// rising is a new list of the same texts, each once.
func rising[T ~string](l []T) []T {
	l = slices.Clone(l)
	slices.Sort(l)
	return slices.Compact(l)
}
