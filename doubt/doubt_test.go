package doubt

import (
	"math"
	"reflect"
	"slices"
	"strings"
	"testing"

	"sixdot/api"
	"sixdot/internal/sample"
	"sixdot/table"
)

// The tables of these tests, and what they are made of.
var (
	rule, modes, between, code      = sample.Rule, sample.Modes, sample.Between, sample.Code
	numbers, short, capitals, chain = sample.Numbers, sample.Short, sample.Capitals, sample.Chain
)

// letters returns the table of the chapter's examples.
func letters() api.Table {
	return code(1, 1, rule("a", 1), rule("b", 3), rule("c", 9))
}

// sure returns cells that were felt without doubt.
func sure(l ...api.Cell) []api.Felt {
	felt := make([]api.Felt, len(l))
	for i, c := range l {
		felt[i].Up = c
	}
	return felt
}

// mixed returns felt cells: of each, what was felt, and then what is doubtful.
func mixed(l ...api.Cell) []api.Felt {
	var felt []api.Felt
	for pair := range slices.Chunk(l, 2) {
		felt = append(felt, api.Felt{Up: pair[0], Maybe: pair[1]})
	}
	return felt
}

// times returns n cells that were felt alike.
func times(n int, up, maybe api.Cell) []api.Felt {
	return slices.Repeat([]api.Felt{{Up: up, Maybe: maybe}}, n)
}

// cells returns n equal cells.
func cells(n int, c api.Cell) []api.Cell {
	return slices.Repeat([]api.Cell{c}, n)
}

// guess returns a guess.
func guess(text string, cost int, l ...api.Cell) api.Guess {
	return api.Guess{Text: text, Cells: l, Cost: cost}
}

// same reports whether two guesses are equal.
func same(a, b api.Guess) bool {
	return a.Text == b.Text && slices.Equal(a.Cells, b.Cells) && a.Cost == b.Cost
}

// checkBest checks that the best guess is the first one of all, or that there is none.
func checkBest(t *testing.T, x api.Table, l []api.Felt, budget int, all ...api.Guess) {
	t.Helper()
	var want api.Guess
	if len(all) > 0 {
		want = all[0]
	}
	if got, ok := Best(x, l, budget); !same(got, want) || ok != (len(all) > 0) {
		t.Errorf("Best(%v, %d) = %v, %v, not %v (table %+v)", l, budget, got, ok, want, x)
	}
}

// checkNearest checks that some guesses are found, and no others.
func checkNearest(t *testing.T, x api.Table, l []api.Felt, budget int, want ...api.Guess) {
	t.Helper()
	if got, e := Nearest(x, l, budget); !slices.EqualFunc(got, want, same) || e != api.OK {
		t.Errorf("Nearest(%v, %d) = %v, %v, not %v (table %+v)", l, budget, got, e, want, x)
	}
	checkBest(t, x, l, budget, want...)
}

// checkBig checks that there are too many guesses, of which one is the best.
func checkBig(t *testing.T, x api.Table, l []api.Felt, budget int, best api.Guess) {
	t.Helper()
	if got, e := Nearest(x, l, budget); len(got) > 0 || e != api.ErrBig {
		t.Errorf("Nearest(%v, %d) = %v, %v (table %+v)", l, budget, got, e, x)
	}
	checkBest(t, x, l, budget, best)
}

// P8.1 (H1, H2): the chapter's examples.
func TestExamples(t *testing.T) {
	a, b, c := guess("a", 0, 1), guess("b", 0, 3), guess("c", 0, 9)
	checkNearest(t, letters(), sure(3), 0, b)
	checkNearest(t, letters(), sure(3), 1, b, guess("a", 1, 1))
	checkNearest(t, letters(), []api.Felt{{Up: 1, Maybe: 10}}, 0, a, b, c)
	checkBig(t, letters(), times(5, 1, 2), 0, guess("aaaaa", 0, 1, 1, 1, 1, 1))
}

// P8.1 (H1, H2), P1: a budget below 0 is refused, whatever the cells are; one of 0 or more is what a text may cost at most.
func TestBudget(t *testing.T) {
	for _, budget := range []int{-1, -2, -1000, math.MinInt} {
		for _, l := range [][]api.Felt{nil, sure(1), sure(8), times(5, 1, 2), times(3, 0, 63)} {
			for _, x := range []api.Table{letters(), code(2, 2, rule("a", 1))} {
				if got, e := Nearest(x, l, budget); len(got) > 0 || e != api.ErrArg {
					t.Errorf("Nearest(%v, %d) = %v, %v", l, budget, got, e)
				}
				checkBest(t, x, l, budget)
			}
		}
	}
	pair := code(1, 1, rule("ab", 1, 3), rule("ba", 3, 1))
	for budget := range 3 {
		checkNearest(t, pair, sure(5, 5), budget)
	}
	for _, budget := range []int{3, 4, 1000} {
		checkNearest(t, pair, sure(5, 5), budget, guess("ab", 3, 1, 3), guess("ba", 3, 3, 1))
	}
	checkNearest(t, letters(), sure(62), 4)
	checkNearest(t, letters(), sure(62), 5, guess("b", 5, 3), guess("c", 5, 9))
	checkNearest(t, letters(), sure(62), 1000, guess("b", 5, 3), guess("c", 5, 9), guess("a", 6, 1))
	one := code(1, 1, rule("a", 1))
	checkNearest(t, one, times(1000, 0, 0), 1000, guess(strings.Repeat("a", 1000), 1000, cells(1000, 1)...))
	checkNearest(t, one, times(1000, 0, 0), 999)
	checkNearest(t, one, times(1001, 0, 0), 1000)
}

// P8.1 (H1, H2): without cells, the empty text is read if a text may end in the first state.
func TestNoCells(t *testing.T) {
	for _, budget := range []int{0, 1, 1000} {
		checkNearest(t, letters(), nil, budget, guess("", 0))
		checkNearest(t, letters(), []api.Felt{}, budget, guess("", 0))
		checkNearest(t, code(1, 1, rule("", 1)), nil, budget, guess("", 0))
		checkNearest(t, code(2, 2, rule("a", 1)), nil, budget)
		checkNearest(t, code(2, 2, modes(0, 1, "", 1)), nil, budget)
		// A text without characters may have cells.
		checkNearest(t, code(2, 2, modes(0, 1, "", 1)), sure(1), budget, guess("", 0, 1))
		checkNearest(t, code(2, 2, modes(0, 1, "", 1)), sure(1, 1), budget)
	}
	checkNearest(t, code(1, 1, rule("", 1)), sure(1, 1, 3), 1, guess("", 1, 1, 1, 1))
}

// P8.1 (H1), P8.6: a dot in which a cell differs costs 1, or nothing if it is doubtful, be it felt or not.
func TestDots(t *testing.T) {
	for up := range api.Full + 1 {
		for maybe := range api.Full + 1 {
			l := []api.Felt{{Up: up, Maybe: maybe}}
			if up > 0 && up < 63 {
				checkNearest(t, code(1, 1, rule("a", up)), l, 0, guess("a", 0, up))
			}
			for k := range 6 {
				c := up ^ 1<<k
				cost := 1 - int(maybe>>k&1)
				if c == 0 || c == 63 {
					continue
				}
				x := code(1, 1, rule("b", c))
				checkNearest(t, x, l, 1, guess("b", cost, c))
				if cost > 0 {
					checkNearest(t, x, l, 0)
				}
			}
		}
	}
	// Blanks and full cells may be felt, and spaces be meant.
	space := code(1, 1, rule(" ", 0), rule("\xa0", 0), rule("a", 32))
	checkNearest(t, space, sure(0), 0, guess(" ", 0, 0), guess("\xa0", 0, 0))
	checkNearest(t, space, sure(63), 4)
	checkNearest(t, space, sure(63), 5, guess("a", 5, 32))
	checkNearest(t, space, sure(63), 6, guess("a", 5, 32), guess(" ", 6, 0), guess("\xa0", 6, 0))
	checkNearest(t, space, []api.Felt{{Up: 63, Maybe: 31}}, 0, guess("a", 0, 32))
	checkNearest(t, space, []api.Felt{{Up: 63, Maybe: 63}}, 0, guess(" ", 0, 0), guess("a", 0, 32), guess("\xa0", 0, 0))
}

// P8.1 (H1): the costs of all cells of all rules count, each at its place; and readings write just as many cells as were felt.
func TestRulesOfSeveralCells(t *testing.T) {
	x := code(4, 8, modes(0, 1, "ab", 1, 2, 4, 8), modes(1, 2, "c", 16), modes(2, 3, "de", 32, 1))
	want := []api.Cell{1, 2, 4, 8, 16, 32, 1}
	checkNearest(t, x, sure(want...), 0, guess("abcde", 0, want...))
	checkNearest(t, x, sure(0, 3, 0, 15, 48, 0, 3), 8)
	checkNearest(t, x, sure(0, 3, 0, 15, 48, 0, 3), 9, guess("abcde", 9, want...))
	doubtful := mixed(0, 0, 3, 2, 0, 4, 15, 3, 48, 48, 0, 31, 3, 3)
	checkNearest(t, x, doubtful, 3)
	checkNearest(t, x, doubtful, 4, guess("abcde", 4, want...))
	for n := range 4 {
		checkNearest(t, code(1, 1, rule("ab", 1, 2, 4, 8)), times(n+1, 0, 63)[:n], 1000, []api.Guess{guess("", 0)}[:max(0, 1-n)]...)
		checkNearest(t, code(1, 1, rule("ab", 1, 2, 4, 8)), times(n+5, 0, 63), 1000, []api.Guess{guess("abab", 0, 1, 2, 4, 8, 1, 2, 4, 8)}[:n/3]...)
	}
	// The same cells may be divided in several ways.
	split := code(1, 1, rule("a", 1), rule("b", 1, 1), rule("c", 1, 1, 1))
	checkNearest(t, split, sure(1, 1, 1), 0, guess("aaa", 0, 1, 1, 1), guess("ab", 0, 1, 1, 1), guess("ba", 0, 1, 1, 1), guess("c", 0, 1, 1, 1))
}

// P8.1 (H1, H2): guesses are ordered by the cost, then by the text.
func TestOrder(t *testing.T) {
	x := code(1, 1, rule("b", 1), rule("a", 1), rule("\xe1", 1), rule("ab", 1), rule("A", 1), rule("~", 1), rule("", 1), rule("0", 3))
	want := []api.Guess{guess("", 0, 1), guess("A", 0, 1), guess("a", 0, 1), guess("ab", 0, 1), guess("b", 0, 1), guess("~", 0, 1), guess("\xe1", 0, 1), guess("0", 1, 3)}
	checkNearest(t, x, sure(1), 1, want...)
	checkNearest(t, x, sure(1), 0, want[:7]...)
	checkNearest(t, x, sure(3), 1, guess("0", 0, 3), guess("", 1, 1), guess("A", 1, 1), guess("a", 1, 1), guess("ab", 1, 1), guess("b", 1, 1), guess("~", 1, 1), guess("\xe1", 1, 1))
	// What is a lesser text so far need not become one, and neither need what costs less.
	checkNearest(t, code(1, 1, rule("a", 1), rule("aa", 1), rule("b", 3)), sure(1, 3), 0, guess("aab", 0, 1, 3), guess("ab", 0, 1, 3))
	turn := code(3, 1, modes(0, 1, "a", 1), modes(0, 2, "b", 3), modes(1, 0, "b", 60), modes(2, 0, "a", 3))
	checkNearest(t, turn, sure(1, 3), 1, guess("ba", 1, 3, 3))
	checkNearest(t, turn, sure(1, 3), 1000, guess("ba", 1, 3, 3), guess("ab", 6, 1, 60))
	// Of a text, the least cost counts.
	checkNearest(t, code(1, 1, rule("a", 63-4), rule("a", 8), rule("a", 1), rule("b", 4)), sure(0), 1000, guess("a", 1, 1), guess("b", 1, 4))
}

// P8.1 (H1, H2): of the readings of the least cost, the least cells count.
func TestLeastCells(t *testing.T) {
	x := code(1, 1, rule("a", 4), rule("a", 1), rule("a", 2))
	checkNearest(t, x, times(1, 0, 7), 0, guess("a", 0, 1))
	checkNearest(t, x, times(1, 0, 7), 1000, guess("a", 0, 1))
	checkNearest(t, x, times(1, 6, 0), 1000, guess("a", 1, 2))
	checkNearest(t, x, times(1, 4, 0), 1000, guess("a", 0, 4))
	checkNearest(t, x, mixed(6, 0, 4, 1, 0, 7), 1000, guess("aaa", 1, 2, 4, 1))
	// The first cell that differs counts, by whatever rules it is written.
	checkNearest(t, code(1, 1, rule("ab", 2, 1), rule("a", 1), rule("b", 4)), times(2, 0, 63), 0, guess("aa", 0, 1, 1), guess("ab", 0, 1, 4), guess("ba", 0, 4, 1), guess("bb", 0, 4, 4))
	checkNearest(t, code(1, 1, rule("ab", 1, 2), rule("a", 1), rule("b", 4)), times(2, 0, 63), 0, guess("aa", 0, 1, 1), guess("ab", 0, 1, 2), guess("ba", 0, 4, 1), guess("bb", 0, 4, 4))
	checkNearest(t, code(2, 2, modes(0, 1, "", 2, 1, 1), modes(1, 1, "a", 1), modes(0, 1, "a", 1, 9), modes(1, 1, "", 9)), times(4, 0, 63), 0, guess("", 0, 2, 1, 1, 9), guess("a", 0, 1, 9, 9, 9), guess("aa", 0, 1, 9, 1, 9), guess("aaa", 0, 1, 9, 1, 1))
	silent := code(1, 1, rule("a", 2), rule("", 1))
	checkNearest(t, silent, times(2, 0, 63), 0, guess("", 0, 1, 1), guess("a", 0, 1, 2), guess("aa", 0, 2, 2))
	checkNearest(t, silent, sure(2, 1), 2, guess("a", 0, 2, 1), guess("", 2, 1, 1), guess("aa", 2, 2, 2))
}

// P8.1 (H1, H2): up to 16 texts are listed; 17 are too many, of which the first one is still the best.
func TestTooMany(t *testing.T) {
	x := code(1, 1, rule("a", 1), rule("b", 3))
	var all []api.Guess
	for _, text := range sample.Texts("ab", 4)[15:] {
		var l []api.Cell
		for _, c := range text {
			l = append(l, []api.Cell{1, 3}[c-'a'])
		}
		all = append(all, guess(text, 0, l...))
	}
	checkNearest(t, x, times(4, 1, 2), 0, all...)
	checkNearest(t, x, times(4, 0, 63), 1000, all...)
	for n := 5; n < 80; n += 7 {
		checkBig(t, x, times(n, 3, 2), 0, guess(strings.Repeat("a", n), 0, cells(n, 1)...))
		checkBig(t, x, times(n, 3, 0), n, guess(strings.Repeat("b", n), 0, cells(n, 3)...))
	}
	// A text without an error, and those with one.
	checkBig(t, x, times(16, 3, 0), 1, guess(strings.Repeat("b", 16), 0, cells(16, 3)...))
	got, e := Nearest(x, times(15, 3, 0), 1)
	if len(got) != 16 || e != api.OK || got[0].Cost != 0 || got[1].Text != "abbbbbbbbbbbbbb" || got[15].Text != "bbbbbbbbbbbbbba" || got[15].Cost != 1 {
		t.Errorf("Nearest = %v, %v", got, e)
	}
	// Texts count, not readings.
	n := 100
	checkNearest(t, code(1, 1, rule("a", 1), rule("a", 2), rule("a", 4), rule("aa", 1, 2)), times(n, 0, 63), 0, guess(strings.Repeat("a", n), 0, cells(n, 1)...))
	silent := code(1, 1, rule("a", 1), rule("", 2))
	checkBig(t, silent, times(16, 0, 3), 0, guess("", 0, cells(16, 2)...))
	got, e = Nearest(silent, times(15, 0, 3), 0)
	if len(got) != 16 || e != api.OK || got[0].Text != "" || got[15].Text != strings.Repeat("a", 15) {
		t.Errorf("Nearest = %v, %v", got, e)
	}
}

// P8.1 (H1): only texts of all cells count that cost at most the budget, not what a part of the cells may mean.
func TestPartsDoNotCount(t *testing.T) {
	x := code(1, 1, rule("a", 1), rule("b", 3))
	a, al := strings.Repeat("a", 21), cells(21, 1)
	// The first cell, or the last one, takes up the budget.
	for _, l := range [][]api.Felt{append(sure(57), times(20, 1, 0)...), append(times(20, 1, 0), sure(57)...)} {
		checkNearest(t, x, l, 2)
		checkNearest(t, x, l, 3, guess(a, 3, al...))
		checkBig(t, x, l, 4, guess(a, 3, al...))
	}
	// Many texts begin in a way that cannot go on, or end in a way to which nothing leads.
	dead := code(2, 1, rule("a", 1), modes(0, 1, "a", 1), modes(1, 1, "b", 1), modes(1, 1, "c", 1))
	checkNearest(t, dead, times(21, 1, 62), 0, guess(a, 0, al...))
	far := code(2, 3, rule("a", 1), modes(0, 1, "b", 62), modes(1, 1, "c", 1), modes(1, 1, "d", 3))
	checkNearest(t, far, times(21, 1, 2), 4, guess(a, 0, al...))
	checkBig(t, far, times(21, 1, 2), 5, guess(a, 0, al...))
	// Of many texts ahead of the last cell, few may stand there.
	last := code(2, 2, rule("a", 1), rule("b", 1), between(2, 1, modes(0, 1, "A", 1)), between(12, 63, rule("c", 1)))
	checkBig(t, last, sure(cells(6, 1)...), 0, guess("aaaaaA", 0, cells(6, 1)...))
	checkNearest(t, code(1, 1, between(1, 63, rule("a", 1)), between(1, 62, rule("b", 1)), between(2, 63, rule("A", 1)), between(4, 63, rule("A", 1))), sure(cells(9, 1)...), 0, guess("aAAAAAAAA", 0, cells(9, 1)...), guess("bAAAAAAAA", 0, cells(9, 1)...))
}

// P8.1 (H1): modes, what must come next, what came last, and what may be the end of a text count.
func TestPaths(t *testing.T) {
	checkNearest(t, numbers(), sure(60, 1, 0, 1), 0, guess("1 a", 0, 60, 1, 0, 1))
	checkNearest(t, numbers(), sure(60, 1), 4, guess("1", 0, 60, 1))
	checkNearest(t, numbers(), sure(60, 1), 5, guess("1", 0, 60, 1), guess("aa", 5, 1, 1))
	checkNearest(t, numbers(), sure(60), 4)
	checkNearest(t, numbers(), sure(60), 5, guess("a", 5, 1))
	checkNearest(t, numbers(), sure(0, 1), 1, guess("aa", 1, 1, 1))
	checkNearest(t, capitals(), sure(32, 1), 0, guess("A", 0, 32, 1))
	checkNearest(t, capitals(), sure(32, 32, 1), 0, guess("A", 0, 32, 32, 1))
	checkNearest(t, capitals(), sure(32, 32, 1, 1), 1, guess("AA", 0, 32, 32, 1, 1), guess(" Aa", 1, 0, 32, 1, 1), guess("A ", 1, 32, 32, 1, 0))
	checkNearest(t, chain(false), sure(cells(8, 1)...), 1, guess("a", 1, 1, 1, 1, 1, 3, 1, 1, 1))
	checkNearest(t, chain(true), times(9, 0, 63), 0, guess("aa", 0, 1, 1, 1, 1, 3, 3, 1, 1, 1))
	checkNearest(t, chain(true), times(6, 0, 63), 1000)
	word := code(1, 1, between(17, 17, rule("the", 2)), rule("t", 2), rule(" ", 0))
	checkNearest(t, word, sure(2), 0, guess("t", 0, 2), guess("the", 0, 2))
	checkNearest(t, word, sure(2, 0, 2, 2), 0, guess("t tt", 0, 2, 0, 2, 2), guess("the tt", 0, 2, 0, 2, 2))
}

// P8.1 (H1, H2): there may be many cells, also more than a text of a book has characters.
func TestManyCells(t *testing.T) {
	const n = 20000
	b := guess(strings.Repeat("b", n), 0, cells(n, 3)...)
	checkNearest(t, letters(), times(n, 3, 0), 0, b)
	checkBig(t, letters(), times(n, 3, 0), 1, b)
	checkBig(t, letters(), times(n, 3, 0), 1000, b)
	checkBig(t, letters(), times(n, 3, 8), 1000, b)
	l := times(n, 3, 0)
	l[n/2].Maybe, l[n-1].Up = 2, 11
	text := []byte(b.Text)
	text[n-1] = 'c'
	other := slices.Clone(b.Cells)
	other[n-1] = 9
	checkBig(t, letters(), l, 2, guess(string(text[:n/2])+"a"+string(text[n/2+1:n-1])+"b", 1, slices.Concat(other[:n/2], []api.Cell{1}, other[n/2+1:n-1], []api.Cell{3})...))
	got, e := Nearest(letters(), l, 1)
	if len(got) != 4 || e != api.OK || !same(got[3], guess(string(text), 1, other...)) {
		t.Errorf("%d guesses, %v", len(got), e)
	}
	checkBest(t, letters(), times(n, 63, 0), 4*n, guess(b.Text, 4*n, b.Cells...))
	checkBest(t, letters(), times(n, 63, 0), 4*n-1)
	// Short texts are the least ones, and may be written in many ways.
	lengths := code(1, 1, rule("a", 1), rule("aa", 3), rule("aaa", 9), rule("", 5), rule("", 6))
	checkBig(t, lengths, times(2000, 0, 63), 0, guess("", 0, cells(2000, 5)...))
	checkBig(t, lengths, times(2000, 1, 10), 0, guess(strings.Repeat("a", 2000), 0, cells(2000, 1)...))
	checkNearest(t, lengths, times(2000, 9, 2), 0, guess(strings.Repeat("aaa", 2000), 0, cells(2000, 9)...))
}

// valid returns the tables of these tests.
func valid() []api.Table {
	return []api.Table{letters(), numbers(), short(), capitals(), chain(false), chain(true)}
}

// The functions promise something for valid tables only.
func TestTablesAreValid(t *testing.T) {
	for i, x := range valid() {
		if k, e := table.Check(x); e != api.OK {
			t.Errorf("the table %d is not valid: rule %d (%+v)", i, k, x)
		}
	}
}

// P8.1 (H3), P2: arguments are not modified, results do not depend on earlier calls, and a result may be changed by its owner.
func TestArgumentsStay(t *testing.T) {
	for i, x := range valid() {
		spare := rule("spare", 9)
		x.Rules = append(x.Rules, spare)[:len(x.Rules)]
		for _, l := range [][]api.Felt{nil, sure(1), sure(60, 1, 0, 1), times(3, 1, 2), times(9, 5, 63), mixed(1, 2, 3, 3, 0, 1)} {
			felt := append(slices.Clone(l), api.Felt{Up: 99})[:len(l)]
			for _, budget := range []int{0, 2, 30} {
				before, e := Nearest(x, felt, budget)
				best, ok := Best(x, felt, budget)
				want := slices.Clone(before)
				for k := range want {
					want[k].Cells = slices.Clone(want[k].Cells)
				}
				first := api.Guess{Text: best.Text, Cells: slices.Clone(best.Cells), Cost: best.Cost}
				for range 3 {
					got, f := Nearest(x, felt, budget)
					if !slices.EqualFunc(got, want, same) || f != e {
						t.Errorf("Nearest(%v, %d) = %v, %v, and before %v, %v", felt, budget, got, f, want, e)
					}
					for k := range got {
						// A guess that is changed or made longer must leave the others alone.
						clear(got[k].Cells)
						_ = append(got[k].Cells, 7, 7, 7, 7)
						if k+1 < len(got) && !same(got[k+1], want[k+1]) {
							t.Errorf("the guess %v shares its cells: %v", want[k+1], got[k+1])
						}
					}
					again, now := Best(x, felt, budget)
					if !same(again, first) || now != ok {
						t.Errorf("Best(%v, %d) = %v, %v, and before %v, %v", felt, budget, again, now, first, ok)
					}
					clear(again.Cells)
				}
				if !slices.EqualFunc(before, want, same) || !same(best, first) {
					t.Errorf("the results were changed: %v and %v, not %v and %v", before, best, want, first)
				}
			}
			if !slices.Equal(felt[:len(l)+1], append(slices.Clone(l), api.Felt{Up: 99})) {
				t.Errorf("the felt cells were changed: %v", felt)
			}
		}
		if !reflect.DeepEqual(x, valid()[i]) || !reflect.DeepEqual(x.Rules[:len(x.Rules)+1][len(x.Rules)], spare) {
			t.Errorf("the table was changed: %+v", x)
		}
	}
}

// P1: no function panics or fails to end, for any tables, cells and budgets; what is reported as a failure has no value.
func TestNoPanic(t *testing.T) {
	felt := [][]api.Felt{nil, sure(1), sure(255, 64), mixed(255, 255, 0, 255, 255, 0), times(5, 1, 2), times(4, 0, 63), times(9, 128, 65), times(60, 0, 3)}
	for _, x := range append(sample.Invalid(), valid()...) {
		for _, l := range felt {
			for _, budget := range []int{math.MinInt, -1, 0, 1, 1000, 1001, math.MaxInt} {
				got, e := Nearest(x, l, budget)
				if e != api.OK && len(got) > 0 || len(got) > 16 || e == api.ErrArg != (budget < 0) {
					t.Errorf("Nearest(%v, %d) = %v, %v (table %+v)", l, budget, got, e, x)
				}
				if best, ok := Best(x, l, budget); !ok && !reflect.DeepEqual(best, api.Guess{}) || ok && budget < 0 {
					t.Errorf("Best(%v, %d) = %v, %v (table %+v)", l, budget, best, ok, x)
				}
			}
		}
	}
}
