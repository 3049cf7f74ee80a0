package translate

import (
	"math"
	"strings"

	"sixdot/api"
	"sixdot/automaton"
	"sixdot/table"
)

// edge is the class of what lies ahead of a text and behind it.
const edge = 0

// impossible is more than any cost, and the cells of a rule may be added to it.
const impossible = math.MaxInt - api.MaxCells

// work is a text that is written with a table.
//
// At a place of the text it is known what came last and what must come next: a state that still allows this differs from others by its mode only, and one that does not leads nowhere. So the costs are those of places and modes.
type work struct {
	table api.Table
	text  string
	// printing and silent are the indices of the rules that print something, and of those that do not.
	printing, silent []int
	// costs has for each place and each mode the least number of cells with which the rest of the text is written.
	costs [][]int
}

// newWork finds the costs from the end of the text to its beginning.
func newWork(t api.Table, s string) *work {
	w := &work{table: t, text: s, costs: make([][]int, len(s)+1)}
	for rule, r := range t.Rules {
		if r.Print == "" {
			w.silent = append(w.silent, rule)
		} else {
			w.printing = append(w.printing, rule)
		}
	}
	for at := len(s); at >= 0; at-- {
		w.costs[at] = w.ends(at)
		w.improve(at)
	}
	return w
}

// ends returns the costs at a place as far as no rule is needed: 0 for the modes in which the text may end there.
func (w *work) ends(at int) []int {
	costs := make([]int, w.table.Modes)
	for mode := range costs {
		// Ahead of its end the text cannot end, as another character must come next.
		if !automaton.Accepts(w.table, w.state(at, mode)) {
			costs[mode] = impossible
		}
	}
	return costs
}

// improve lets the rules decrease the costs at a place behind which all costs are known.
func (w *work) improve(at int) {
	here := w.costs[at]
	decrease := func(rule int) bool {
		from := w.table.Rules[rule].From
		cost := w.by(rule, at)
		if cost >= here[from] {
			return false
		}
		here[from] = cost
		return true
	}
	for _, rule := range w.printing {
		decrease(rule)
	}
again:
	for {
		for _, rule := range w.silent {
			// The modes from which rules lead to one whose cost has decreased may be earlier or later ones.
			if decrease(rule) {
				continue again
			}
		}
		return
	}
}

// by returns the least number of cells with which a rule that is applied at a place begins the rest of the text: one that is not less than impossible if there is none.
func (w *work) by(rule, at int) int {
	to, ok := w.follow(rule, at)
	if !ok {
		return impossible
	}
	r := w.table.Rules[rule]
	return len(r.Cells) + w.costs[to][r.To]
}

// follow returns the place to which a rule leads from a place, and whether the rule applies there and lets the text go on.
func (w *work) follow(rule, at int) (int, bool) {
	r := w.table.Rules[rule]
	if !strings.HasPrefix(w.text[at:], r.Print) {
		return 0, false
	}
	to := at + len(r.Print)
	next, ok := automaton.Step(w.table, w.state(at, r.From), rule)
	if !ok || next.Need&w.need(to) == 0 {
		return 0, false
	}
	return to, true
}

// state returns the state of a mode at a place where only what comes next may follow.
func (w *work) state(at, mode int) api.State {
	return api.State{Mode: mode, Last: w.class(at - 1), Need: w.need(at)}
}

// need returns the mask of the class of what comes next at a place.
func (w *work) need(at int) uint8 {
	return 1 << w.class(at)
}

// class returns the class of the character at a place, or the edge outside of the text.
func (w *work) class(at int) int {
	if at < 0 || at >= len(w.text) {
		return edge
	}
	return table.Class(w.text[at])
}

// possible reports whether the text has a path.
func (w *work) possible() bool {
	return w.costs[0][automaton.Start().Mode] < impossible
}

// least returns the writing of a text that has a path.
func (w *work) least() api.Writing {
	var l api.Writing
	at, mode := 0, automaton.Start().Mode
	// Each rule writes a cell: where no more are needed, the text is at its end.
	for w.costs[at][mode] > 0 {
		rule := w.keeping(at, mode)
		r := w.table.Rules[rule]
		l.Path = append(l.Path, rule)
		l.Cells = append(l.Cells, r.Cells...)
		at, mode = at+len(r.Print), r.To
	}
	return l
}

// keeping returns the first rule that keeps the cost of a place and a mode, which is more than 0.
func (w *work) keeping(at, mode int) int {
	rule := 0
	for w.table.Rules[rule].From != mode || w.by(rule, at) != w.costs[at][mode] {
		rule++
	}
	return rule
}

// reached returns the greatest place that rules reach from the first state on.
func (w *work) reached() int {
	modes := w.table.Modes
	met := make([]bool, (len(w.text)+1)*modes)
	var waiting []int
	meet := func(at, mode int) {
		if k := at*modes + mode; !met[k] {
			met[k] = true
			waiting = append(waiting, k)
		}
	}
	greatest := 0
	meet(0, automaton.Start().Mode)
	for len(waiting) > 0 {
		k := waiting[len(waiting)-1]
		waiting = waiting[:len(waiting)-1]
		at, mode := k/modes, k%modes
		greatest = max(greatest, at)
		for rule, r := range w.table.Rules {
			if r.From != mode {
				continue
			}
			if to, ok := w.follow(rule, at); ok {
				meet(to, r.To)
			}
		}
	}
	return greatest
}
