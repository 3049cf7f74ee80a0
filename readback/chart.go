package readback

import (
	"iter"
	"slices"

	"sixdot/api"
	"sixdot/automaton"
)

// place is a place between cells, and a state in which rules come there that write the cells before it.
type place struct {
	at    int
	state api.State
}

// way is a text that is still to be printed, and the number of the place that is reached with it.
type way struct {
	print string
	to    int
}

// chart has the places that rules reach in cells, by their numbers: the first one is the beginning, in the first state.
type chart struct {
	table  api.Table
	cells  []api.Cell
	places []place
	// ways has for each place those to the next ones, as far as they lead on to the end of a text.
	ways [][]way
}

// chartOf finds the places in the cells l.
func chartOf(t api.Table, l []api.Cell) *chart {
	c := &chart{table: t, cells: l}
	numbers := map[place]int{}
	// found has the numbers of the places that lie behind as many cells as its index says.
	var found [][]int
	number := func(p place) int {
		k, known := numbers[p]
		if !known {
			k = len(c.places)
			numbers[p] = k
			c.places = append(c.places, p)
			c.ways = append(c.ways, nil)
			for len(found) <= p.at {
				found = append(found, nil)
			}
			found[p.at] = append(found[p.at], k)
		}
		return k
	}
	number(place{state: automaton.Start()})
	// Each rule writes at least one cell: all places behind at cells are known when it is their turn.
	for at := 0; at < len(found); at++ {
		for rule, r := range fitting(t, l, at) {
			for _, from := range found[at] {
				if next, ok := automaton.Step(t, c.places[from].state, rule); ok {
					to := number(place{at + len(r.Cells), next})
					c.ways[from] = append(c.ways[from], way{r.Print, to})
				}
			}
		}
	}
	c.prune(found)
	return c
}

// fitting yields the rules that write the cells which stand in l from a place on.
func fitting(t api.Table, l []api.Cell, at int) iter.Seq2[int, api.Rule] {
	return func(yield func(int, api.Rule) bool) {
		for i, r := range t.Rules {
			if common(r.Cells, l[at:]) == len(r.Cells) && !yield(i, r) {
				return
			}
		}
	}
}

// common returns the number of cells with which both a and b begin.
func common(a, b []api.Cell) int {
	n := 0
	for n < len(a) && n < len(b) && a[n] == b[n] {
		n++
	}
	return n
}

// prune removes the ways that lead to no end of a text, from the last places to the first one; found has the places by the number of cells before them.
func (c *chart) prune(found [][]int) {
	leads := make([]bool, len(c.places))
	for _, places := range slices.Backward(found) {
		for _, k := range places {
			c.ways[k] = slices.DeleteFunc(c.ways[k], func(w way) bool { return !leads[w.to] })
			leads[k] = len(c.ways[k]) > 0 || c.ends(k)
		}
	}
}

// ends reports whether a text may end at the place k, with all cells.
func (c *chart) ends(k int) bool {
	return c.places[k].at == len(c.cells) && automaton.Accepts(c.table, c.places[k].state)
}

// farthest returns the greatest number of cells that go on, and -1 if not even no cells do.
func (c *chart) farthest() int {
	alive := aliveStates(c.table)
	far := -1
	for _, p := range slices.Backward(c.places) {
		if !alive[p.state] {
			continue
		}
		far = max(far, p.at)
		for rule, r := range c.table.Rules {
			// The next rule may be begun by the cells without being written in full.
			begun := p.at + common(r.Cells, c.cells[p.at:])
			if begun <= far {
				continue
			}
			if next, ok := automaton.Step(c.table, p.state, rule); ok && alive[next] {
				far = begun
			}
		}
	}
	return far
}

// aliveStates returns the states of t, each with whether an accepting one can be reached from it.
func aliveStates(t api.Table) map[api.State]bool {
	alive := automaton.Alive(t)
	states := map[api.State]bool{}
	for k, s := range automaton.States(t) {
		states[s] = alive[k]
	}
	return states
}
