package revise

import (
	"math"
	"slices"
	"strings"

	"sixdot/api"
	"sixdot/automaton"
	"sixdot/table"
)

// none is the cost in a memo of what is impossible, and the number of no state.
const none = -1

// impossible is more than any cost, and the cells of a rule may be added to it.
const impossible = math.MaxInt - api.MaxCells

// edge is the class of what lies behind a text.
const edge = 0

// classes is the number of the classes of characters, with the edge.
const classes = 6

// work is a table with its states, and their numbers.
type work struct {
	table   api.Table
	states  []api.State
	numbers map[api.State]int
}

// newWork finds the states of a table, and reports whether it is valid: rules of others may write no cells at all, or lead to modes that there are not.
func newWork(t api.Table) (*work, bool) {
	if !table.Valid(t) {
		return nil, false
	}
	w := &work{table: t, states: automaton.States(t), numbers: map[api.State]int{}}
	for k, s := range w.states {
		w.numbers[s] = k
	}
	return w, true
}

// columnsFit reports whether m has the columns of a memo of its text.
func (w *work) columnsFit(m api.Memo) bool {
	places := len(m.Text) + 1
	if len(m.Costs) != places || len(m.Least) != places {
		return false
	}
	for _, column := range m.Costs {
		if len(column) != len(w.states) {
			return false
		}
	}
	return true
}

// move is a rule that leads from a state to a state, given by their numbers.
type move struct {
	from, rule, to int
}

// view is what the table allows at the places at which a character of one class, or the end of the text, comes next. The states that allow this differ by their modes and last characters only: of those that agree in both, the first one stands for all.
type view struct {
	// first has for each state the number of the one that stands for it, or none.
	first []int
	// printing and silent are the moves from such states by rules that print something, and by those that do not.
	printing, silent []move
}

// view returns the view of a class.
func (w *work) view(class int) view {
	v := view{first: make([]int, len(w.states))}
	kinds := map[api.State]int{}
	for k, s := range w.states {
		v.first[k] = none
		if s.Need>>class&1 == 0 {
			continue
		}
		s.Need = 1 << class
		if _, met := kinds[s]; !met {
			kinds[s] = k
		}
		v.first[k] = kinds[s]
	}
	for k, s := range w.states {
		if v.first[k] != k {
			continue
		}
		s.Need = 1 << class
		for rule, r := range w.table.Rules {
			next, ok := automaton.Step(w.table, s, rule)
			switch {
			case !ok:
			case r.Print == "":
				v.silent = append(v.silent, move{k, rule, kinds[next]})
			default:
				v.printing = append(v.printing, move{k, rule, w.numbers[next]})
			}
		}
	}
	return v
}

// columns returns a function that computes the column of a place of m behind which all columns are known.
func (w *work) columns(m *api.Memo) func(at int) {
	var views [classes]view
	for class := range views {
		views[class] = w.view(class)
	}
	// improve lets the moves of a view decrease the costs of a place.
	improve := func(at int, costs []int, v view) {
		decrease := func(x move, rest int) bool {
			cost := len(w.table.Rules[x.rule].Cells) + rest
			if cost >= costs[x.from] {
				return false
			}
			costs[x.from] = cost
			return true
		}
		for _, x := range v.printing {
			if print := w.table.Rules[x.rule].Print; strings.HasPrefix(m.Text[at:], print) {
				decrease(x, suffix(*m, at+len(print), x.to))
			}
		}
		for again := true; again; {
			again = false
			for _, x := range v.silent {
				// The states from which moves lead to one whose cost has decreased may be earlier or later ones.
				again = decrease(x, costs[x.to]) || again
			}
		}
	}
	return func(at int) {
		v := views[next(m.Text[at:])]
		costs := w.ends(m.Text[at:])
		improve(at, costs, v)
		for k, first := range v.first {
			if first != none {
				costs[k] = costs[first]
			}
		}
		m.Costs[at], m.Least[at] = column(costs)
	}
}

// next returns the class of what comes next ahead of the rest of a text.
func next(rest string) int {
	if rest == "" {
		return edge
	}
	return table.Class(rest[0])
}

// ends returns the costs of all states ahead of the rest of a text as far as no rule is needed: 0 for those in which the text may end there.
func (w *work) ends(rest string) []int {
	costs := make([]int, len(w.states))
	for k, s := range w.states {
		if rest != "" || !automaton.Accepts(w.table, s) {
			costs[k] = impossible
		}
	}
	return costs
}

// column turns the costs of a place into its column of a memo, and returns it with the least one.
func column(costs []int) ([]int, int) {
	least := slices.Min(costs)
	if least == impossible {
		least = none
	}
	for k, cost := range costs {
		if cost == impossible {
			costs[k] = none
		} else {
			costs[k] = cost - least
		}
	}
	return costs, least
}

// suffix returns the suffix cost of a place and of the state k, or impossible.
func suffix(m api.Memo, at, k int) int {
	if m.Costs[at][k] == none {
		return impossible
	}
	return m.Least[at] + m.Costs[at][k]
}

// keeping returns the first rule that keeps the suffix cost of a place and of the state k, with the number of the state to which it leads, and whether there is one.
func (w *work) keeping(m api.Memo, at, k int) (int, int, bool) {
	for rule, r := range w.table.Rules {
		s, ok := automaton.Step(w.table, w.states[k], rule)
		if !ok || !strings.HasPrefix(m.Text[at:], r.Print) {
			continue
		}
		to := w.numbers[s]
		if len(r.Cells)+suffix(m, at+len(r.Print), to) == suffix(m, at, k) {
			return rule, to, true
		}
	}
	return 0, 0, false
}
