package admit

import (
	"slices"

	"sixdot/api"
)

// pair has the numbers of the positions of two paths that write the same cells, the smaller one first.
type pair struct{ a, b int }

// lead is how the texts of two paths differ so far: one of them goes on with a or b where the other one ends, or they are apart, so that they differ whatever follows.
type lead struct {
	a, b  string
	apart bool
}

// after returns the lead when both texts go on with a and b.
func (l lead) after(a, b string) lead {
	if l.apart {
		return l
	}
	a, b = l.a+a, l.b+b
	n := 0
	for n < len(a) && n < len(b) && a[n] == b[n] {
		n++
	}
	if n < len(a) && n < len(b) {
		return lead{apart: true}
	}
	return lead{a: a[n:], b: b[n:]}
}

// fork is what matters of two paths that have written the same cells.
type fork struct {
	at   pair
	lead lead
}

// forkOf returns the fork with the positions a and b.
func forkOf(a, b int, l lead) fork {
	if a > b {
		return fork{pair{b, a}, lead{l.b, l.a, l.apart}}
	}
	return fork{pair{a, b}, l}
}

// branch has the forks that are found first with some cells: those of an earlier branch, by its index, and a last one.
type branch struct {
	before int
	last   api.Cell
	forks  []fork
}

// search follows forks through a graph.
type search struct {
	graph
	leads map[pair][]lead
}

// clashing returns the shortest cells, the least of several ones, that two different texts are written as; nil if there are none.
func clashing(g graph) []api.Cell {
	s := search{g, map[pair][]lead{}}
	start := fork{}
	s.keep(start)
	// The branches are in the order of their cells, shorter ones first.
	branches := []branch{{forks: []fork{start}}}
	for i := 0; i < len(branches); i++ {
		for cell := range api.Full {
			forks := s.follow(branches[i].forks, cell)
			if len(forks) == 0 {
				continue
			}
			branches = append(branches, branch{i, cell, forks})
			if slices.ContainsFunc(forks, s.clashes) {
				return cellsOf(branches)
			}
		}
		branches[i].forks = nil
	}
	return nil
}

// follow returns the forks to which others lead with a cell, as far as they are worth keeping.
func (s search) follow(forks []fork, cell api.Cell) []fork {
	var kept []fork
	for _, f := range forks {
		for _, a := range s.moves[f.at.a][cell] {
			for _, b := range s.moves[f.at.b][cell] {
				next := forkOf(a.to, b.to, f.lead.after(a.print, b.print))
				if s.keep(next) {
					kept = append(kept, next)
				}
			}
		}
	}
	return kept
}

// keep reports whether f may lead to a clash that no fork before it leads to, with cells that are not greater.
func (s search) keep(f fork) bool {
	leads := s.leads[f.at]
	// However two paths go on from a pair, they make the texts equal for one lead at most, so that one of two leads ends in a clash whenever a third one does.
	if len(leads) == 2 || slices.Contains(leads, f.lead) {
		return false
	}
	s.leads[f.at] = append(leads, f.lead)
	return true
}

// clashes reports whether both paths of f may end, with different texts.
func (s search) clashes(f fork) bool {
	return f.lead != lead{} && s.ends[f.at.a] && s.ends[f.at.b]
}

// cellsOf returns the cells of the last branch.
func cellsOf(branches []branch) []api.Cell {
	var cells []api.Cell
	for i := len(branches) - 1; i > 0; i = branches[i].before {
		cells = append(cells, branches[i].last)
	}
	slices.Reverse(cells)
	return cells
}
