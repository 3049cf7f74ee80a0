package admit

import (
	"sixdot/api"
	"sixdot/automaton"
)

// position is what matters of a path for what it may still write: the state behind its last rule, and the cells of that rule that are not written yet, a byte for each.
type position struct {
	state api.State
	rest  string
}

// move is a way to write a cell: it leads to the position with the number to. One that begins a rule has all that the rule prints.
type move struct {
	print string
	to    int
}

// graph has the positions from which an end can be reached, by their numbers: the beginning is 0.
type graph struct {
	// moves has the moves from each position by the cells that they write.
	moves []map[api.Cell][]move
	// ends has for each position whether a path may end there.
	ends []bool
}

// graphOf returns the positions of the paths of t.
func graphOf(t api.Table) graph {
	var g graph
	var positions []position
	numbers := map[position]int{}
	number := func(p position) int {
		k, known := numbers[p]
		if !known {
			k = len(positions)
			numbers[p] = k
			positions = append(positions, p)
		}
		return k
	}
	alive := aliveStates(t)
	number(position{state: automaton.Start()})
	for k := 0; k < len(positions); k++ {
		p := positions[k]
		moves := map[api.Cell][]move{}
		add := func(print string, next position) {
			cell := api.Cell(next.rest[0])
			next.rest = next.rest[1:]
			moves[cell] = append(moves[cell], move{print, number(next)})
		}
		if p.rest != "" {
			add("", p)
		} else {
			for rule, r := range t.Rules {
				if next, ok := automaton.Step(t, p.state, rule); ok && alive[next] {
					add(r.Print, position{next, asString(r.Cells)})
				}
			}
		}
		g.moves = append(g.moves, moves)
		g.ends = append(g.ends, p.rest == "" && automaton.Accepts(t, p.state))
	}
	return g
}

// aliveStates returns the states of t from which an end can be reached.
func aliveStates(t api.Table) map[api.State]bool {
	alive := automaton.Alive(t)
	states := map[api.State]bool{}
	for k, s := range automaton.States(t) {
		if alive[k] {
			states[s] = true
		}
	}
	return states
}

// asString returns cells as a string, which can be a part of a key.
func asString(cells []api.Cell) string {
	bytes := make([]byte, len(cells))
	for i, c := range cells {
		bytes[i] = byte(c)
	}
	return string(bytes)
}
