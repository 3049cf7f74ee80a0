package doubt

import (
	"math/rand"
	"slices"
	"strings"
	"testing"

	"sixdot/admit"
	"sixdot/api"
	"sixdot/automaton"
	"sixdot/internal/sample"
	"sixdot/readback"
	"sixdot/table"
)

// small returns tables of few rules and few kinds of cells, so that many texts are written alike or nearly so.
func small(seed int64, n int) []api.Table {
	random := rand.New(rand.NewSource(seed))
	all := valid()
	for i := range n {
		m := sample.Maker{Pick: random.Intn, Modes: 1 + i%3, Kinds: 2 + i%6, Characters: "aab1"}
		all = append(all, m.Table(3+i%6))
	}
	return all
}

// large returns tables of up to the most rules and modes.
func large(seed int64, n int) []api.Table {
	random := rand.New(rand.NewSource(seed))
	var all []api.Table
	for i := range n {
		m := sample.Maker{Pick: random.Intn, Modes: 1 + i%8, Kinds: 62, Characters: "aaabbA1-\xe1"}
		all = append(all, m.Table(12+i%53))
	}
	return all
}

// The properties are about valid tables.
func TestRandomTablesAreValid(t *testing.T) {
	for _, x := range append(small(1, 500), large(2, 100)...) {
		if _, e := table.Check(x); e != api.OK {
			t.Errorf("a table is not valid: %+v", x)
		}
	}
}

// pathOf returns what a path writes of up to so many rules, which are chosen by chance, and the text that it prints.
func pathOf(random *rand.Rand, x api.Table, rules int) ([]api.Cell, string, bool) {
	var path []int
	whole := -1
	s := automaton.Start()
	for range rules {
		if automaton.Accepts(x, s) {
			whole = len(path)
		}
		for _, rule := range random.Perm(len(x.Rules)) {
			if next, ok := automaton.Step(x, s, rule); ok {
				path, s = append(path, rule), next
				break
			}
		}
	}
	if whole < 0 {
		return nil, "", false
	}
	run := automaton.Run(x, path[:whole])
	return run.Cells, run.Text, run.Ok
}

// spoil returns cells as they may be felt: up to so many dots are wrong, and some others are doubtful.
func spoil(random *rand.Rand, l []api.Cell, wrong, doubtful int) []api.Felt {
	felt := sure(l...)
	if len(l) == 0 {
		return felt
	}
	for range wrong {
		felt[random.Intn(len(l))].Up ^= 1 << random.Intn(6)
	}
	for range doubtful {
		f, dot := &felt[random.Intn(len(l))], api.Cell(1)<<random.Intn(6)
		f.Maybe |= dot
		f.Up ^= dot * api.Cell(random.Intn(2))
	}
	return felt
}

// chance returns n felt cells of which at most so many kinds are doubtful.
func chance(random *rand.Rand, n, kinds int) []api.Felt {
	l := make([]api.Felt, n)
	for i := range l {
		l[i] = api.Felt{Up: api.Cell(random.Intn(8)), Maybe: api.Cell(random.Intn(kinds))}
	}
	return l
}

// costOf is a second source of costs: it looks at each dot.
func costOf(l []api.Felt, written []api.Cell) int {
	cost := 0
	for i, c := range written {
		for dot := range 6 {
			raised, felt, doubtful := c>>dot&1, l[i].Up>>dot&1, l[i].Maybe>>dot&1
			if raised != felt && doubtful == 0 {
				cost++
			}
		}
	}
	return cost
}

// meanings has the best guess for each text.
type meanings map[string]api.Guess

// offer puts a guess in the place of one for the same text that is not as good.
func (m meanings) offer(g api.Guess) {
	old, known := m[g.Text]
	if !known || g.Cost < old.Cost || g.Cost == old.Cost && slices.Compare(g.Cells, old.Cells) < 0 {
		g.Cells = slices.Clone(g.Cells)
		m[g.Text] = g
	}
}

// within returns the guesses that cost at most budget, in their order.
func (m meanings) within(budget int) []api.Guess {
	var list []api.Guess
	for _, g := range m {
		if g.Cost <= budget {
			list = append(list, g)
		}
	}
	slices.SortFunc(list, func(a, b api.Guess) int {
		if a.Cost != b.Cost {
			return a.Cost - b.Cost
		}
		return strings.Compare(a.Text, b.Text)
	})
	return list
}

// checkMeanings checks what is found with a budget against all meanings that cost at most so much, and returns their number.
func checkMeanings(t *testing.T, x api.Table, l []api.Felt, budget int, m meanings) int {
	t.Helper()
	want := m.within(budget)
	if len(want) > 16 {
		checkBig(t, x, l, budget, want[0])
	} else {
		checkNearest(t, x, l, budget, want...)
	}
	return len(want)
}

// tally counts the cases by the numbers of their guesses.
type tally struct{ none, one, several, many int }

// count counts a case with n guesses.
func (c *tally) count(n int) {
	switch {
	case n == 0:
		c.none++
	case n == 1:
		c.one++
	case n <= 16:
		c.several++
	default:
		c.many++
	}
}

// check checks that there are enough cases of each kind.
func (c *tally) check(t *testing.T, none, one, several, many int) {
	t.Helper()
	if c.none < none || c.one < one || c.several < several || c.many < many {
		t.Errorf("too few cases of a kind: %+v", *c)
	}
}

// readings returns the meanings of felt cells by all lists of rules.
func readings(x api.Table, l []api.Felt) meanings {
	m := meanings{}
	var extend func(path []int)
	extend = func(path []int) {
		run := automaton.Run(x, path)
		if run.At < len(path) || len(run.Cells) > len(l) {
			return
		}
		if run.Ok && len(run.Cells) == len(l) {
			m.offer(guess(run.Text, costOf(l, run.Cells), run.Cells...))
		}
		for rule := range x.Rules {
			extend(append(slices.Clip(path), rule))
		}
	}
	extend(nil)
	return m
}

// P8.1 (H1, H2), P8.2: the guesses for few cells are those of all lists of rules.
func TestAllReadings(t *testing.T) {
	random := rand.New(rand.NewSource(3))
	var c tally
	for i, x := range small(4, 900) {
		for n := range 5 {
			l := chance(random, n, []int{1, 2, 8, 64}[(i+n)%4])
			m := readings(x, l)
			for _, budget := range []int{0, 1, 2, 4, 1000} {
				c.count(checkMeanings(t, x, l, budget, m))
			}
		}
	}
	c.check(t, 3000, 2000, 3000, 100)
}

// used returns the cells that rules of a table write.
func used(x api.Table) []api.Cell {
	var all []api.Cell
	for _, r := range x.Rules {
		all = append(all, r.Cells...)
	}
	slices.Sort(all)
	return slices.Compact(all)
}

// readable returns the meanings of felt cells by reading back all cells of the same number.
func readable(x api.Table, l []api.Felt) meanings {
	m := meanings{}
	kinds := used(x)
	written := make([]api.Cell, len(l))
	var fill func(i int)
	fill = func(i int) {
		if i < len(l) {
			for _, c := range kinds {
				written[i] = c
				fill(i + 1)
			}
			return
		}
		texts, _ := readback.Texts(x, written, 1<<20)
		for _, text := range texts {
			m.offer(guess(text, costOf(l, written), written...))
		}
	}
	fill(0)
	return m
}

// P8.1 (H1, H2), P8.2: the guesses for few cells are what all cells of the same number are read as.
func TestAllCells(t *testing.T) {
	random := rand.New(rand.NewSource(5))
	var c tally
	for i, x := range small(6, 1500) {
		n := 1 + i%4
		l := chance(random, n, []int{1, 4, 64}[i/4%3])
		m := readable(x, l)
		for budget := range 7 {
			c.count(checkMeanings(t, x, l, budget, m))
		}
	}
	c.check(t, 3000, 1500, 2000, 100)
}

// part is a part of a text that is printed when the first cells have been written, and the state then.
type part struct {
	text  string
	state api.State
}

// forward is a second source for more cells: it follows all rules from the first state on as long as they cost at most budget, and keeps the best cells for each part of a text and each state. It gives up if there are too many.
func forward(x api.Table, l []api.Felt, budget int) (meanings, bool) {
	parts := make([]map[part]api.Guess, len(l)+1)
	for at := range parts {
		parts[at] = map[part]api.Guess{}
	}
	parts[0][part{"", automaton.Start()}] = api.Guess{}
	total := 0
	for at := range l {
		total += len(parts[at])
		if total > 800 {
			return nil, false
		}
		for p, g := range parts[at] {
			for rule, r := range x.Rules {
				next, ok := automaton.Step(x, p.state, rule)
				if !ok || len(r.Cells) > len(l)-at {
					continue
				}
				cost := g.Cost + costOf(l[at:], r.Cells)
				if cost > budget {
					continue
				}
				to := part{p.text + r.Print, next}
				written := slices.Concat(g.Cells, r.Cells)
				old, known := parts[len(written)][to]
				if !known || cost < old.Cost || cost == old.Cost && slices.Compare(written, old.Cells) < 0 {
					parts[len(written)][to] = guess(to.text, cost, written...)
				}
			}
		}
	}
	m := meanings{}
	for p, g := range parts[len(l)] {
		if automaton.Accepts(x, p.state) {
			m.offer(g)
		}
	}
	return m, true
}

// P8.1 (H1, H2), P8.2: the guesses for more cells are those of the second source.
func TestForward(t *testing.T) {
	random := rand.New(rand.NewSource(7))
	var c tally
	long := 0
	for i, x := range append(small(8, 500), large(9, 500)...) {
		for k := range 4 {
			l, _, ok := pathOf(random, x, 3+(i+9*k)%40)
			if !ok {
				continue
			}
			felt := spoil(random, l, k, i%5)
			for budget := range 4 {
				m, ok := forward(x, felt, budget)
				if !ok {
					break
				}
				n := checkMeanings(t, x, felt, budget, m)
				c.count(n)
				if n > 0 && len(l) > 30 {
					long++
				}
			}
		}
	}
	c.check(t, 500, 1500, 1500, 500)
	if long < 500 {
		t.Errorf("only %d cases have many cells", long)
	}
}

// checkGuesses checks that each guess has cells that are read as its text, as many as were felt, and their cost.
func checkGuesses(t *testing.T, x api.Table, l []api.Felt, all []api.Guess) {
	t.Helper()
	for _, g := range all {
		if len(g.Cells) != len(l) || costOf(l, g.Cells) != g.Cost {
			t.Errorf("the guess %v for %v does not fit (table %+v)", g, l, x)
			continue
		}
		if texts, e := readback.Texts(x, g.Cells, 5000); e == api.OK && !slices.Contains(texts, g.Text) {
			t.Errorf("the cells of the guess %v are not read as its text (table %+v)", g, x)
		}
	}
}

// P8.2, P8.3: if at most budget dots of the cells of a path are wrong, and others doubtful, the text is among the guesses, with at most this cost, unless there are too many; the best guess costs no more.
func TestSpoiltCells(t *testing.T) {
	random := rand.New(rand.NewSource(10))
	among, first, many := 0, 0, 0
	for i, x := range append(small(11, 1000), large(12, 600)...) {
		for wrong := range 5 {
			l, text, ok := pathOf(random, x, 2+(i+wrong)%30)
			if !ok {
				continue
			}
			felt := spoil(random, l, wrong, i%7)
			best, ok := Best(x, felt, wrong)
			if !ok || best.Cost > wrong {
				t.Errorf("Best(%v, %d) = %v, %v, but %v is %q (table %+v)", felt, wrong, best, ok, l, text, x)
			}
			checkGuesses(t, x, felt, []api.Guess{best})
			all, e := Nearest(x, felt, wrong)
			if e == api.ErrBig {
				many++
				continue
			}
			checkGuesses(t, x, felt, all)
			k := slices.IndexFunc(all, func(g api.Guess) bool { return g.Text == text })
			switch {
			case k < 0 || all[k].Cost > costOf(felt, l) || all[k].Cost == costOf(felt, l) && slices.Compare(all[k].Cells, l) > 0:
				t.Errorf("Nearest(%v, %d) = %v, %v, but %v is %q (table %+v)", felt, wrong, all, e, l, text, x)
			case k == 0:
				first++
			default:
				among++
			}
		}
	}
	if among < 300 || first < 1500 || many < 300 {
		t.Errorf("%d texts are the first guess, %d another one, %d are among many: too few", first, among, many)
	}
}

// P8.4: without doubtful dots and a budget, the guesses are the texts of the cells; for an admitted table there is at most one.
func TestCertainCells(t *testing.T) {
	random := rand.New(rand.NewSource(13))
	var c tally
	unique := 0
	for i, x := range append(small(14, 800), large(15, 300)...) {
		admitted := admit.Admitted(x)
		for k := range 8 {
			l, text, ok := pathOf(random, x, 1+(i+3*k)%25)
			if !ok || k == 0 {
				kinds := used(x)
				l, text = nil, ""
				for range 1 + i%5 {
					l = append(l, kinds[random.Intn(len(kinds))])
				}
			}
			texts, e := readback.Texts(x, l, 16)
			if e == api.ErrBig {
				least, _, _ := readback.Read(x, l)
				checkBig(t, x, sure(l...), 0, guess(least, 0, l...))
				c.count(17)
				continue
			}
			var want []api.Guess
			for _, text := range texts {
				want = append(want, guess(text, 0, l...))
			}
			checkNearest(t, x, sure(l...), 0, want...)
			c.count(len(want))
			if !admitted {
				continue
			}
			got, _ := Nearest(x, sure(l...), 0)
			if len(got) > 1 || ok && k > 0 && got[0].Text != text {
				t.Errorf("Nearest(%v, 0) = %v, but the table is admitted (%+v)", l, got, x)
			}
			unique += len(got)
		}
	}
	c.check(t, 300, 2000, 300, 100)
	if unique < 500 {
		t.Errorf("only %d texts of admitted tables", unique)
	}
}

// P8.5: a larger budget adds guesses that cost more, and leaves those there are; if there are too many, there remain too many. The best guess remains the same one.
func TestLargerBudget(t *testing.T) {
	random := rand.New(rand.NewSource(16))
	added, many := 0, 0
	for i, x := range append(small(17, 800), large(18, 200)...) {
		l, _, ok := pathOf(random, x, 2+i%12)
		if !ok || i%4 == 0 {
			l = make([]api.Cell, i%7)
		}
		felt := spoil(random, l, i%5, i%4)
		var all []api.Guess
		var best api.Guess
		big, any := false, false
		for budget := range 20 {
			got, e := Nearest(x, felt, budget)
			switch {
			case big && e != api.ErrBig:
				t.Errorf("Nearest(%v, %d) = %v, %v, but there are too many with a smaller budget (table %+v)", felt, budget, got, e, x)
			case e == api.ErrBig:
				big = true
				many++
			case len(got) < len(all) || !slices.EqualFunc(got[:len(all)], all, same) || slices.ContainsFunc(got[len(all):], func(g api.Guess) bool { return g.Cost != budget }):
				t.Errorf("Nearest(%v, %d) = %v, and with a smaller budget %v (table %+v)", felt, budget, got, all, x)
			default:
				added += min(len(got)-len(all), 1)
				all = got
			}
			first, ok := Best(x, felt, budget)
			if any && (!ok || !same(first, best)) || !any && ok && first.Cost != budget {
				t.Errorf("Best(%v, %d) = %v, %v, and with a smaller budget %v, %v (table %+v)", felt, budget, first, ok, best, any, x)
			}
			best, any = first, ok
		}
	}
	if added < 1000 || many < 1000 {
		t.Errorf("guesses are added %d times, and there are too many %d times: too few", added, many)
	}
}

// P8.6: one more doubtful dot leaves each text at its cost, or lowers it.
func TestMoreDoubt(t *testing.T) {
	random := rand.New(rand.NewSource(19))
	equal, lower, many := 0, 0, 0
	for i, x := range append(small(20, 2400), large(21, 400)...) {
		l, _, ok := pathOf(random, x, 2+i%9)
		if !ok || len(l) == 0 {
			continue
		}
		felt := spoil(random, l, i%4, i%3)
		budget := i % 6
		for range 6 {
			more := slices.Clone(felt)
			more[random.Intn(len(more))].Maybe |= 1 << random.Intn(6)
			all, e := Nearest(x, felt, budget)
			next, f := Nearest(x, more, budget)
			if e == api.ErrBig && f != api.ErrBig {
				t.Errorf("Nearest(%v, %d) = %v, %v, but there are too many with less doubt (table %+v)", more, budget, next, f, x)
			}
			if e == api.OK && f == api.ErrBig {
				many++
			}
			if e != api.OK || f != api.OK {
				break
			}
			costs := map[string]int{}
			for _, g := range next {
				costs[g.Text] = g.Cost
			}
			for _, g := range all {
				cost, found := costs[g.Text]
				switch {
				case !found || cost > g.Cost:
					t.Errorf("Nearest(%v, %d) = %v, and with less doubt %v (table %+v)", more, budget, next, all, x)
				case cost < g.Cost:
					lower++
				default:
					equal++
				}
			}
			felt = more
		}
	}
	if equal < 2000 || lower < 500 || many < 50 {
		t.Errorf("the cost stays %d times, is lower %d times, and %d times there come to be too many: too few", equal, lower, many)
	}
}
