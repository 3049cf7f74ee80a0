package doubt

import (
	"cmp"
	"maps"
	"slices"

	"sixdot/api"
	"sixdot/automaton"
	"sixdot/cell"
)

// most is the greatest number of texts that are listed.
const most = 16

// tooLong is the cost of a rule that writes more cells than there are left.
const tooLong = -1

// move is a rule that applies in a state, and the number of the state to which it leads.
type move struct{ rule, to int }

// ending is the best way to write the rest of a text: its cost, and the least cells of this cost.
type ending struct {
	cost  int
	cells strand
}

// endings has the rests of texts that may follow somewhere, each with the best way to write it.
type endings map[strand]ending

// search looks for the texts of felt cells. The states of the table are given by their numbers; that of the first one is 0.
type search struct {
	*strands
	table  api.Table
	felt   []api.Felt
	budget int
	// moves has the moves from each state, and accepts tells whether a text may end in it.
	moves   [][]move
	accepts []bool
	// reached has for each number of cells the states in which they may have been written, with the least cost of this.
	reached []map[int]int
}

// find returns the guesses for l with a cost of at most budget, in their order. They are put together from their ends, and keep may delete some of the endings for a state, or report that there are too many, so that nothing is found.
func find(t api.Table, l []api.Felt, budget int, keep func(*search, endings) bool) ([]api.Guess, bool) {
	s := &search{strands: newStrands(), table: t, felt: l, budget: budget}
	s.explore()
	s.reach()
	// The index is the number of cells that are written before what follows in a state.
	var ahead [api.MaxCells + 1]map[int]endings
	for at, states := range slices.Backward(s.reached) {
		copy(ahead[1:], ahead[:])
		ahead[0] = map[int]endings{}
		costs := s.costs(at)
		for state, spent := range states {
			found := s.collect(state, budget-spent, costs, ahead)
			if at == len(l) && s.accepts[state] {
				found[empty] = ending{}
			}
			if !keep(s, found) {
				return nil, false
			}
			ahead[0][state] = found
		}
	}
	return s.guesses(ahead[0][0]), true
}

// explore finds the states and their moves.
func (s *search) explore() {
	states := automaton.States(s.table)
	numbers := map[api.State]int{}
	for k, state := range states {
		numbers[state] = k
	}
	for _, state := range states {
		var moves []move
		for rule, r := range s.table.Rules {
			// Rules of a table that is not valid may write no cells, so that they could be applied for ever, or too many.
			if len(r.Cells) == 0 || len(r.Cells) > api.MaxCells {
				continue
			}
			if next, ok := automaton.Step(s.table, state, rule); ok {
				moves = append(moves, move{rule, numbers[next]})
			}
		}
		s.moves = append(s.moves, moves)
		s.accepts = append(s.accepts, automaton.Accepts(s.table, state))
	}
}

// reach finds the states in which the first cells may have been written.
func (s *search) reach() {
	s.reached = make([]map[int]int, len(s.felt)+1)
	for at := range s.reached {
		s.reached[at] = map[int]int{}
	}
	s.reached[0][0] = 0
	for at, states := range s.reached {
		costs := s.costs(at)
		for state, spent := range states {
			for _, m := range s.moves[state] {
				cost := spent + costs[m.rule]
				if costs[m.rule] == tooLong || cost > s.budget {
					continue
				}
				next := s.reached[at+len(s.table.Rules[m.rule].Cells)]
				if known, met := next[m.to]; !met || cost < known {
					next[m.to] = cost
				}
			}
		}
	}
}

// costs returns for each rule the cost of its cells behind the first ones, or tooLong.
func (s *search) costs(at int) []int {
	costs := make([]int, len(s.table.Rules))
	for rule, r := range s.table.Rules {
		if len(r.Cells) > len(s.felt)-at {
			costs[rule] = tooLong
			continue
		}
		for i, c := range r.Cells {
			costs[rule] += cell.Cost(s.felt[at+i], c)
		}
	}
	return costs
}

// collect returns the endings that begin with a rule in a state and cost at most budget: costs are those of the rules, and ahead has what may follow behind their cells.
func (s *search) collect(state, budget int, costs []int, ahead [api.MaxCells + 1]map[int]endings) endings {
	found := endings{}
	for _, m := range s.moves[state] {
		r := s.table.Rules[m.rule]
		// Behind a rule that is too long there is nothing.
		for text, behind := range ahead[len(r.Cells)][m.to] {
			cost := costs[m.rule] + behind.cost
			if cost > budget {
				continue
			}
			text = before(s.strands, []byte(r.Print), text)
			x := ending{cost, before(s.strands, r.Cells, behind.cells)}
			if known, met := found[text]; !met || s.better(x, known) {
				found[text] = x
			}
		}
	}
	return found
}

// better reports whether x is a better way than y to write the same text.
func (s *search) better(x, y ending) bool {
	if x.cost != y.cost {
		return x.cost < y.cost
	}
	return s.less(x.cells, y.cells)
}

// few reports whether there are not too many endings. What is written ahead of them can be the same, so that each one stands for another text of all cells.
func (s *search) few(found endings) bool {
	return len(found) <= most
}

// first deletes all endings but the first one: whatever is printed ahead of them, they keep their order.
func (s *search) first(found endings) bool {
	first := none
	for text, x := range found {
		least := found[first].cost
		if first == none || x.cost < least || x.cost == least && s.less(text, first) {
			first = text
		}
	}
	maps.DeleteFunc(found, func(text strand, _ ending) bool { return text != first })
	return true
}

// guesses returns the endings as guesses, in their order.
func (s *search) guesses(found endings) []api.Guess {
	var list []api.Guess
	for text, x := range found {
		list = append(list, api.Guess{Text: string(elements[byte](s.strands, text)), Cells: elements[api.Cell](s.strands, x.cells), Cost: x.cost})
	}
	slices.SortFunc(list, func(a, b api.Guess) int {
		return cmp.Or(cmp.Compare(a.Cost, b.Cost), cmp.Compare(a.Text, b.Text))
	})
	return list
}
