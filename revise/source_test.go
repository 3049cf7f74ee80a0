package revise

import (
	"math/rand"
	"slices"
	"strings"
	"testing"

	"sixdot/api"
	"sixdot/automaton"
	"sixdot/internal/sample"
	"sixdot/table"
	"sixdot/translate"
)

// few are the characters of small tables, many those of large ones; both have some of several classes.
const (
	few  = "aab1"
	many = "aaabcA1-\xe1"
)

// made returns a table of up to so many rules that are made by chance, and a few of single characters in the mode 0.
func made(random *rand.Rand, modes int, characters string, rules int) api.Table {
	m := sample.Maker{Pick: random.Intn, Modes: modes, Kinds: 62, Characters: characters}
	x := m.Table(rules)
	for k := range min(rules/3, len(characters)) {
		x = sample.With(x, sample.Modes(0, random.Intn(modes), characters[k:k+1], 1))
	}
	return x
}

// small returns tables of few rules and modes.
func small(seed int64, n int) []api.Table {
	random := rand.New(rand.NewSource(seed))
	all := valid()
	for i := range n {
		all = append(all, made(random, 1+i%3, few, 3+i%7))
	}
	return all
}

// large returns tables of up to the most rules and modes.
func large(seed int64, n int) []api.Table {
	random := rand.New(rand.NewSource(seed))
	var all []api.Table
	for i := range n {
		all = append(all, made(random, 1+i%8, many, 10+i%55))
	}
	return all
}

// The properties are about valid tables.
func TestRandomTablesAreValid(t *testing.T) {
	for _, x := range append(small(1, 500), large(2, 100)...) {
		if _, e := table.Check(x); e != api.OK {
			t.Errorf("a table is not valid: %+v", x)
		}
	}
}

// randomText returns a text of some characters, and now and then a space.
func randomText(random *rand.Rand, characters string, n int) string {
	text := make([]byte, n)
	for i := range text {
		text[i] = characters[random.Intn(len(characters))]
		if random.Intn(12) == 0 {
			text[i] = ' '
		}
	}
	return string(text)
}

// printed returns what rules print that apply one after the other and are chosen by chance.
func printed(random *rand.Rand, x api.Table, rules int) string {
	return sample.Printed(x, rules, random.Perm)
}

// scratch is a second source of memos: all rules are tried in all states of a place until no cost decreases.
func scratch(x api.Table, s string) api.Memo {
	const much = 1 << 30
	states := automaton.States(x)
	costs := make([][]int, len(s)+1)
	m := api.Memo{Text: s, Costs: make([][]int, len(s)+1), Least: make([]int, len(s)+1)}
	for at := len(s); at >= 0; at-- {
		costs[at] = slices.Repeat([]int{much}, len(states))
		for again := true; again; {
			again = false
			for k, state := range states {
				least := much
				if at == len(s) && automaton.Accepts(x, state) {
					least = 0
				}
				for rule, r := range x.Rules {
					next, ok := automaton.Step(x, state, rule)
					if !ok || !strings.HasPrefix(s[at:], r.Print) {
						continue
					}
					least = min(least, len(r.Cells)+costs[at+len(r.Print)][slices.Index(states, next)])
				}
				if least < costs[at][k] {
					costs[at][k], again = least, true
				}
			}
		}
		m.Costs[at], m.Least[at] = relative(costs[at], much)
	}
	return m
}

// relative returns costs less the least one, and -1 for those of much or more, with the least one.
func relative(costs []int, much int) ([]int, int) {
	least := slices.Min(costs)
	column := make([]int, len(costs))
	for k, cost := range costs {
		if column[k] = cost - least; cost >= much {
			column[k] = -1
		}
	}
	if least >= much {
		least = -1
	}
	return column, least
}

// cheap is a third source, of the suffix costs of up to n cells: it tries all lists of rules from a state on. Other costs are -1.
func cheap(x api.Table, state api.State, rest string, n int) int {
	least := -1
	if rest == "" && automaton.Accepts(x, state) {
		return 0
	}
	for rule, r := range x.Rules {
		next, ok := automaton.Step(x, state, rule)
		behind, prints := strings.CutPrefix(rest, r.Print)
		if !ok || !prints || len(r.Cells) > n {
			continue
		}
		if cost := cheap(x, next, behind, n-len(r.Cells)); cost >= 0 && (least < 0 || cost+len(r.Cells) < least) {
			least = cost + len(r.Cells)
		}
	}
	return least
}

// sameMemo reports whether two memos are equal.
func sameMemo(a, b api.Memo) bool {
	return a.Text == b.Text && slices.Equal(a.Least, b.Least) && slices.EqualFunc(a.Costs, b.Costs, slices.Equal[[]int])
}

// copied returns a copy of a memo that shares no memory with it.
func copied(m api.Memo) api.Memo {
	l := api.Memo{Text: m.Text, Least: slices.Clone(m.Least)}
	for _, column := range m.Costs {
		l.Costs = append(l.Costs, slices.Clone(column))
	}
	return l
}

// P7.1 (G1): the suffix costs of short texts are those of all lists of rules, state by state.
func TestAllLists(t *testing.T) {
	const n = 4
	possible, never := 0, 0
	for _, x := range small(3, 300) {
		states := automaton.States(x)
		for _, s := range sample.Texts("ab1", 3) {
			m, e := Start(x, s)
			if m.Text != s || len(m.Costs) != len(s)+1 || len(m.Least) != len(s)+1 || e != api.OK {
				t.Fatalf("Start(%q) = %+v, %v (table %+v)", s, m, e, x)
			}
			for i, column := range m.Costs {
				costs := slices.DeleteFunc(slices.Clone(column), func(c int) bool { return c == -1 })
				if len(column) != len(states) || len(costs) > 0 && slices.Min(costs) != 0 || len(costs) == 0 && m.Least[i] != -1 {
					t.Fatalf("Start(%q): the column of %d is %v, %d (table %+v)", s, i, column, m.Least[i], x)
				}
				for k, c := range column {
					want := cheap(x, states[k], s[i:], n)
					got := m.Least[i] + c
					if c == -1 || got > n {
						got = -1
					}
					if got != want {
						t.Errorf("Start(%q): the suffix cost of %d and %v is %d, not %d (table %+v)", s, i, states[k], got, want, x)
					}
					if want >= 0 {
						possible++
					} else {
						never++
					}
				}
			}
		}
	}
	if possible < 30000 || never < 100000 {
		t.Errorf("%d suffix costs are possible, %d not: too few", possible, never)
	}
}

// P7.1 (G1): the memos of texts of any length are those of the second source.
func TestScratch(t *testing.T) {
	random := rand.New(rand.NewSource(4))
	possible, never := 0, 0
	for i, x := range append(small(5, 900), large(6, 120)...) {
		for _, s := range []string{printed(random, x, i%12), randomText(random, few, i%9), randomText(random, many, i%5)} {
			m, e := Start(x, s)
			if want := scratch(x, s); !sameMemo(m, want) || e != api.OK {
				t.Errorf("Start(%q) = %v, %v, not %v (table %+v)", s, m, e, want, x)
			}
			for _, least := range m.Least {
				if least >= 0 {
					possible++
				} else {
					never++
				}
			}
		}
	}
	if possible < 8000 || never < 4000 {
		t.Errorf("%d columns are possible, %d not: too few", possible, never)
	}
}

// randomSplice returns a splice that fits a text.
func randomSplice(random *rand.Rand, s, characters string) api.Splice {
	c := api.Splice{At: random.Intn(len(s) + 1), Put: randomText(random, characters, random.Intn(4)*random.Intn(2))}
	c.Cut = min(random.Intn(4)*random.Intn(2), len(s)-c.At)
	// A byte that is replaced by itself changes nothing, and one that is replaced by one of its kind not much.
	if random.Intn(6) == 0 {
		c.Put = s[c.At : c.At+c.Cut]
	}
	return c
}

// whole returns a text after a splice.
func whole(s string, c api.Splice) string {
	return s[:c.At] + c.Put + s[c.At+c.Cut:]
}

// why counts for what reasons columns are recomputed or not.
type why struct {
	near, costs, numbers, impossible, shifted, kept int
}

// stops reports whether the columns before place i are not recomputed, as the chapter says: old and new are both memos, and the changed part begins at a place.
func stops(old, new api.Memo, i, at int, n *why) bool {
	if i+3 > at {
		n.near++
		return false
	}
	differences := map[int]bool{}
	for _, k := range []int{i, i + 1, i + 2, i + 3} {
		if !slices.Equal(old.Costs[k], new.Costs[k]) {
			n.costs++
			return false
		}
		if new.Least[k] != -1 {
			differences[new.Least[k]-old.Least[k]] = true
		}
	}
	switch {
	case len(differences) > 1:
		n.numbers++
	case len(differences) == 0:
		n.impossible++
	case differences[0]:
		n.kept++
	default:
		n.shifted++
	}
	return len(differences) < 2
}

// recomputed returns how many columns are recomputed.
func recomputed(old, new api.Memo, c api.Splice, n *why) int {
	end := c.At + len(c.Put)
	for i := end - 1; i > 0; i-- {
		if stops(old, new, i, c.At, n) {
			return end - i
		}
	}
	return end
}

// checkChange checks what a splice that fits does to a memo, and returns the memo of the spliced text.
func checkChange(t *testing.T, x api.Table, m api.Memo, c api.Splice, n *why) api.Memo {
	t.Helper()
	want := scratch(x, whole(m.Text, c))
	got, count, e := Change(x, m, c)
	if !sameMemo(got, want) || e != api.OK {
		t.Fatalf("Change(%v, %+v) = %v, %v, not %v (table %+v)", m, c, got, e, want, x)
	}
	if k := recomputed(m, want, c, n); count != k {
		t.Errorf("Change(%v, %+v) recomputes %d columns, not %d (table %+v)", m, c, count, k, x)
	}
	if count > c.At+len(c.Put) || c.Cut == 0 && c.Put == "" && count > 3 {
		t.Errorf("Change(%v, %+v) recomputes %d columns (table %+v)", m, c, count, x)
	}
	return got
}

// checkResult checks the result of a memo, and reports whether there is one.
func checkResult(t *testing.T, x api.Table, m api.Memo) bool {
	t.Helper()
	got, e := Result(x, m)
	want, _, refused := translate.Write(x, m.Text)
	if !slices.Equal(got.Path, want.Path) || !slices.Equal(got.Cells, want.Cells) || e != refused {
		t.Errorf("Result(%v) = %v, %v, not %v, %v (table %+v)", m, got, e, want, refused, x)
	}
	return e == api.OK
}

// P7.1 (G2, G3), P7.2, P7.3, P7.4, P7.5: after many changes, the memos, the work and the results are those from scratch; each memo is changed in several ways, and all of them are at the end as they were.
func TestHistories(t *testing.T) {
	random := rand.New(rand.NewSource(7))
	var n why
	written, refused := 0, 0
	for i, x := range append(small(8, 800), large(9, 80)...) {
		characters := few
		if i%3 == 2 || len(x.Rules) > 12 {
			characters = many
		}
		m, _ := Start(x, printed(random, x, i%25)+randomText(random, characters, i%7))
		all := []api.Memo{m}
		originals := []api.Memo{copied(m)}
		for range 12 {
			old := all[random.Intn(len(all))]
			m := checkChange(t, x, old, randomSplice(random, old.Text, characters), &n)
			all, originals = append(all, m), append(originals, copied(m))
		}
		for k, m := range all {
			if !sameMemo(m, originals[k]) {
				t.Errorf("%v was changed to %v (table %+v)", originals[k], m, x)
			}
			if checkResult(t, x, m) {
				written++
			} else {
				refused++
			}
		}
	}
	if least := min(n.near, n.costs, n.numbers, n.impossible, n.shifted, n.kept); least < 60 {
		t.Errorf("%+v: too few", n)
	}
	if written < 1000 || refused < 1000 {
		t.Errorf("%d texts are written, and %d refused: too few", written, refused)
	}
}

// P7.2, P7.4: where nothing is cut and put, at most the three columns before the place are recomputed, and nothing changes.
func TestNothing(t *testing.T) {
	random := rand.New(rand.NewSource(10))
	for i, x := range append(small(11, 150), large(12, 40)...) {
		m, _ := Start(x, printed(random, x, i%9)+randomText(random, few, i%4))
		for at := range len(m.Text) + 1 {
			got, n, e := Change(x, m, api.Splice{At: at})
			if !sameMemo(got, m) || n != min(at, 3) || e != api.OK {
				t.Errorf("Change(%v) of nothing at %d = %v, %d, %v (table %+v)", m, at, got, n, e, x)
			}
		}
	}
}

// P7.2, P7.4: all splices of short texts.
func TestAllSplices(t *testing.T) {
	random := rand.New(rand.NewSource(13))
	var n why
	for i, x := range small(14, 40) {
		m, _ := Start(x, randomText(random, few, 4+i%6))
		for at := range len(m.Text) + 1 {
			for cut := range len(m.Text) - at + 1 {
				for _, put := range []string{"", "a", "1b", " 1", "abab1"} {
					checkResult(t, x, checkChange(t, x, m, api.Splice{At: at, Cut: cut, Put: put}, &n))
				}
			}
		}
	}
}
