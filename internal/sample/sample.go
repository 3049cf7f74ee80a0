// Package sample makes code tables, and texts, for the tests of several layers. The program itself does not use it.
package sample

import (
	"math"
	"slices"
	"strings"

	"sixdot/api"
	"sixdot/automaton"
)

// Rule returns a rule of the mode 0 without conditions.
func Rule(print string, cells ...api.Cell) api.Rule {
	return api.Rule{Print: print, Cells: cells, Left: 63, Right: 63}
}

// Modes returns a rule without conditions that leads from a mode to a mode.
func Modes(from, to int, print string, cells ...api.Cell) api.Rule {
	r := Rule(print, cells...)
	r.From, r.To = from, to
	return r
}

// Between returns a rule between characters of some classes.
func Between(left, right uint8, r api.Rule) api.Rule {
	r.Left, r.Right = left, right
	return r
}

// Code returns a table of some modes, those of the mask accept being accepting ones.
func Code(n int, accept uint8, rules ...api.Rule) api.Table {
	return api.Table{Modes: n, Accept: accept, Rules: rules}
}

// Numbers returns the table of the examples of layer 3: a letter, a sign ahead of digits, a digit, and a space behind it.
func Numbers() api.Table {
	return Code(2, 3, Rule("a", 1), Between(63, 8, Modes(0, 1, "", 60)), Modes(1, 1, "1", 1), Modes(1, 0, " ", 0))
}

// Short returns the table of the examples of layers 6 and 7, in which two letters have a cell together.
func Short() api.Table {
	return Code(1, 1, Rule("a", 1), Rule("b", 3), Rule("ab", 7))
}

// Capitals returns a table in which a capital letter needs a sign, and several ones a longer sign for all of them.
func Capitals() api.Table {
	return Code(2, 3, Rule("a", 1), Between(63, 4, Modes(0, 1, "", 32, 32)), Rule("A", 32, 1), Modes(1, 1, "A", 1), Modes(1, 0, "", 32, 4), Modes(1, 0, " ", 0), Rule(" ", 0))
}

// Chain returns a table in which a text begins in mode 0, ends in mode 7, and is printed in mode 4; signs lead from each mode to the next one, in the order of the rules or against it.
func Chain(back bool) api.Table {
	x := Code(8, 128)
	for m := range 7 {
		x.Rules = append(x.Rules, Modes(m, m+1, "", 1))
	}
	if back {
		slices.Reverse(x.Rules)
	}
	x.Rules = append(x.Rules, Modes(4, 4, "a", 3))
	return x
}

// With returns a table with a further rule at its end, and the table itself if it has an equal one or no room.
func With(x api.Table, r api.Rule) api.Table {
	equal := func(y api.Rule) bool {
		return y.Print == r.Print && slices.Equal(y.Cells, r.Cells) && y.Left == r.Left && y.Right == r.Right && y.From == r.From && y.To == r.To
	}
	if len(x.Rules) < api.MaxRules && !slices.ContainsFunc(x.Rules, equal) {
		x.Rules = append(slices.Clip(x.Rules), r)
	}
	return x
}

// Invalid returns tables that are not valid: with numbers of modes that are, or are not, and with rules that write no cells or too many, print too much or no characters, or lead from modes or to modes that there are not.
func Invalid() []api.Table {
	wild := []api.Rule{
		{}, {Print: "a", Left: 63, Right: 63}, {Left: 255, Right: 255}, {Print: "b", Cells: []api.Cell{}, Left: 255, Right: 255},
		{Left: 63, Right: 63, To: 1}, {Left: 63, Right: 63, From: 1},
		{Print: "\x00\xff", Cells: []api.Cell{1}, Left: 255, Right: 255, To: math.MaxInt}, {Print: "ab", Cells: []api.Cell{1}, Left: 63, Right: 63, To: 9},
		{Print: "a", Cells: []api.Cell{1}, Left: 255, Right: 255, From: 9}, {Cells: []api.Cell{255}, Left: 255, Right: 255, To: -1},
		{Print: "c", Cells: make([]api.Cell, 5), Left: 63, Right: 63}, {Print: "aaaaa", Cells: []api.Cell{1, 1}, Left: 63, Right: 63},
		{Print: strings.Repeat("a", 1000), Cells: make([]api.Cell, 1000), Left: 255, Right: 255, From: math.MinInt},
	}
	var all []api.Table
	for _, m := range []int{math.MinInt, -1, 0, 1, 2, 8, 9, math.MaxInt} {
		for _, accept := range []uint8{0, 1, 2, 255} {
			all = append(all, Code(m, accept), Code(m, accept, wild...), Code(m, accept, slices.Repeat(wild, 20)...))
			for _, r := range wild {
				all = append(all, Code(m, accept, r), Code(m, accept, r, Rule("a", 1)), Code(m, accept, Rule("a", 1), r))
			}
		}
	}
	return all
}

// Maker makes rules and tables by choice.
type Maker struct {
	// Pick chooses a number from 0 to less than n.
	Pick func(n int) int
	// Modes and Kinds are the numbers of modes and of cells that there may be, Characters what rules may print beside spaces.
	Modes, Kinds int
	Characters   string
}

// mask returns a mask, most often that of all classes.
func (m Maker) mask() uint8 {
	if m.Pick(4) > 0 {
		return 63
	}
	return uint8(1 + m.Pick(63))
}

// Rule returns a sound rule.
func (m Maker) Rule() api.Rule {
	r := Between(m.mask(), m.mask(), Modes(m.Pick(m.Modes), m.Pick(m.Modes), ""))
	if m.Pick(12) == 0 {
		r.Print, r.Cells = []string{" ", "\xa0"}[m.Pick(2)], []api.Cell{0}
		return r
	}
	for range []int{0, 0, 1, 1, 1, 2, 2, 3, 4}[m.Pick(9)] {
		k := m.Pick(len(m.Characters))
		r.Print += m.Characters[k : k+1]
	}
	for range 1 + m.Pick(4)*m.Pick(2) {
		r.Cells = append(r.Cells, api.Cell(1+m.Pick(m.Kinds)))
	}
	return r
}

// Table returns a valid table of up to so many rules.
func (m Maker) Table(rules int) api.Table {
	x := Code(m.Modes, uint8(1+m.Pick(1<<m.Modes-1)))
	for range rules {
		x = With(x, m.Rule())
	}
	return x
}

// Printed returns what up to so many rules print that apply one after the other; order chooses the order in which n rules are tried each time.
func Printed(x api.Table, rules int, order func(n int) []int) string {
	var path []int
	s := automaton.Start()
	for range rules {
		for _, rule := range order(len(x.Rules)) {
			if next, ok := automaton.Step(x, s, rule); ok {
				path, s = append(path, rule), next
				break
			}
		}
	}
	return automaton.Run(x, path).Text
}

// Texts returns all texts of up to n characters of some.
func Texts(characters string, n int) []string {
	all := []string{""}
	for i := 0; len(all[i]) < n; i++ {
		for k := range len(characters) {
			all = append(all, all[i]+characters[k:k+1])
		}
	}
	return all
}
