// Package fresh tells what is handed in as it is, in new memory; the layers ask it where an answer is, or has, what they were given.
package fresh

import (
	"slices"

	"gallipot/api"
)

// mostParts is how many parts of a filter are gone through: far more than one that may be has, but others, whose Kids share memory, may have more than there is time for.
const mostParts = 1 << 16

// mostTold is how many parts of a filter one call may tell: what it tells has at most 2^31 - 1 bytes, and a part takes 72 of them.
const mostTold = (1<<31 - 1) / 72

// State tells s in new memory.
func State(s api.State) api.State {
	s.F, s.Store, s.Out, s.K = Filter(s.F), slices.Clone(s.Store), slices.Clone(s.Out), Know(s.K)
	return s
}

// Know tells k in new memory.
func Know(k api.Know) api.Know {
	// Not by know.Plain: it is to stay as it is where it may not be, too.
	k.L = slices.Clone(k.L)
	for i, f := range k.L {
		k.L[i].Ids = slices.Clone(f.Ids)
	}
	return k
}

// Filter tells p in new memory, if it is small; else p, as nobody could go through all of it.
func Filter(p api.Pred) api.Pred {
	if !Small(p) {
		return p
	}
	return filter(p)
}

// Whole tells p in new memory, if one call may tell so much; else p. It is for answers that are new memory where the filter may not be, too: that takes as long as there are parts.
func Whole(p api.Pred) api.Pred {
	if left(p, mostTold) < 0 {
		return p
	}
	return filter(p)
}

// Small tells whether p has few enough parts to be gone through, as each filter that may be has.
func Small(p api.Pred) bool {
	return left(p, mostParts) >= 0
}

// filter tells p in new memory.
func filter(p api.Pred) api.Pred {
	p.Kids = slices.Clone(p.Kids)
	for i, kid := range p.Kids {
		p.Kids[i] = filter(kid)
	}
	return p
}

// left tells how many of n parts p leaves over; below 0, if it has more.
func left(p api.Pred, n int) int {
	n--
	for _, kid := range p.Kids {
		if n < 0 {
			break
		}
		n = left(kid, n)
	}
	return n
}
