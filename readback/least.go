package readback

import (
	"cmp"
	"slices"
)

// branch has the ways that go on with the same character behind a text of some length.
type branch struct {
	length int
	ways   []way
}

// least returns the least texts that are read from the cells, in increasing order: limit of them, which is at least 1, or all if there are fewer.
func (c *chart) least(limit int) []string {
	var texts []string
	var text []byte
	// The branches with the least texts lie at the end.
	var branches []branch
	spread := func(ways []way) {
		open, ends := c.settle(ways)
		if ends {
			texts = append(texts, string(text))
		}
		for _, same := range byCharacter(open) {
			branches = append(branches, branch{len(text), same})
		}
		// Each branch has a text, and all texts of an earlier one are greater: the earliest ones need not be kept.
		if more := len(texts) + len(branches) - limit; more > 0 {
			branches = branches[more:]
		}
	}
	spread([]way{{}})
	for len(branches) > 0 {
		b := branches[len(branches)-1]
		branches = branches[:len(branches)-1]
		text = append(text[:b.length], b.ways[0].print[0])
		spread(printed(b.ways))
	}
	return texts
}

// settle goes on from the ways that have nothing left to print, until all that are open have. It reports whether a text may end with one that had nothing left. It uses up the list of ways that it is given.
func (c *chart) settle(waiting []way) ([]way, bool) {
	var open []way
	ends := false
	met := map[int]bool{}
	for len(waiting) > 0 {
		w := waiting[len(waiting)-1]
		waiting = waiting[:len(waiting)-1]
		if w.print != "" {
			open = append(open, w)
			continue
		}
		// Several ways may come to the same place with the same text: one of them is enough.
		if !met[w.to] {
			met[w.to] = true
			ends = ends || c.ends(w.to)
			waiting = append(waiting, c.ways[w.to]...)
		}
	}
	return open, ends
}

// byCharacter divides ways by the first character that they print, those with the greatest one first.
func byCharacter(ways []way) [][]way {
	slices.SortFunc(ways, func(a, b way) int { return cmp.Compare(b.print[0], a.print[0]) })
	var groups [][]way
	for len(ways) > 0 {
		n := 1
		for n < len(ways) && ways[n].print[0] == ways[0].print[0] {
			n++
		}
		groups = append(groups, ways[:n])
		ways = ways[n:]
	}
	return groups
}

// printed returns ways behind their first character, in a list of its own.
func printed(ways []way) []way {
	rest := make([]way, len(ways))
	for i, w := range ways {
		rest[i] = way{w.print[1:], w.to}
	}
	return rest
}
