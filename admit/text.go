package admit

import (
	"slices"
	"strings"

	"sixdot/api"
)

// leastTexts returns the two least texts that are written as cells, in increasing order; fewer if there are not so many.
func leastTexts(g graph, cells []api.Cell) []string {
	reached := reachedWith(g, cells)
	texts := map[int][]string{}
	for _, p := range reached[len(cells)] {
		if g.ends[p] {
			texts[p] = []string{""}
		}
	}
	for i, cell := range slices.Backward(cells) {
		before := map[int][]string{}
		for _, p := range reached[i] {
			before[p] = leastFrom(g.moves[p][cell], texts)
		}
		texts = before
	}
	return texts[0]
}

// reachedWith returns the positions that are reached with no cells, with the first one, and so on.
func reachedWith(g graph, cells []api.Cell) [][]int {
	reached := [][]int{{0}}
	met := map[int]bool{}
	for i, cell := range cells {
		clear(met)
		var next []int
		for _, p := range reached[i] {
			for _, m := range g.moves[p][cell] {
				if !met[m.to] {
					met[m.to] = true
					next = append(next, m.to)
				}
			}
		}
		reached = append(reached, next)
	}
	return reached
}

// leastFrom returns the two least texts that begin with one of moves and go on with one of those from the position to which it leads.
func leastFrom(moves []move, texts map[int][]string) []string {
	var all []string
	for _, m := range moves {
		for _, text := range texts[m.to] {
			all = append(all, m.print+text)
		}
	}
	slices.Sort(all)
	all = slices.Compact(all)
	return all[:min(len(all), 2)]
}

// spot is a position of a path, and the number of bytes of a text that it has printed.
type spot struct{ position, printed int }

// writes reports whether a path that prints text writes cells.
func writes(g graph, text string, cells []api.Cell) bool {
	here, next := map[spot]bool{{}: true}, map[spot]bool{}
	for _, cell := range cells {
		for s := range here {
			for _, m := range g.moves[s.position][cell] {
				if strings.HasPrefix(text[s.printed:], m.print) {
					next[spot{m.to, s.printed + len(m.print)}] = true
				}
			}
		}
		here, next = next, here
		clear(next)
	}
	for s := range here {
		if s.printed == len(text) && g.ends[s.position] {
			return true
		}
	}
	return false
}
