package readback

import (
	"maps"
	"math"
	"math/rand"
	"reflect"
	"slices"
	"testing"

	"sixdot/api"
	"sixdot/automaton"
	"sixdot/table"
)

// randomRule returns a sound rule with few characters and few cells, so that tables of such rules write many texts alike.
func randomRule(random *rand.Rand, modes int) api.Rule {
	mask := func() uint8 {
		if random.Intn(3) > 0 {
			return 63
		}
		return uint8(1 + random.Intn(63))
	}
	r := api.Rule{Left: mask(), Right: mask(), From: random.Intn(modes), To: random.Intn(modes)}
	if random.Intn(8) == 0 {
		r.Print, r.Cells = string([]byte{byte(32 + 128*random.Intn(2))}), []api.Cell{0}
		return r
	}
	const characters = "abA1\xe1"
	for range random.Intn(5) {
		k := random.Intn(len(characters))
		r.Print += characters[k : k+1]
	}
	for range 1 + random.Intn(4)*random.Intn(2) {
		r.Cells = append(r.Cells, api.Cell(1+random.Intn(2)))
	}
	return r
}

// randomTable returns a valid table of n rules, or of fewer if they would be equal.
func randomTable(random *rand.Rand, modes, n int) api.Table {
	x := api.Table{Modes: modes, Accept: uint8(1 + random.Intn(1<<modes-1))}
	for range n {
		r := randomRule(random, modes)
		if !slices.ContainsFunc(x.Rules, func(y api.Rule) bool { return reflect.DeepEqual(y, r) }) {
			x.Rules = append(x.Rules, r)
		}
	}
	return x
}

// tables returns small tables.
func tables() []api.Table {
	all := []api.Table{letters(), numbers(), words(), blind(), closed()}
	random := rand.New(rand.NewSource(4))
	for i := range 240 {
		all = append(all, randomTable(random, 1+i%3, 3+i%6))
	}
	return all
}

// largeTables returns tables of up to the most rules and modes.
func largeTables() []api.Table {
	var all []api.Table
	random := rand.New(rand.NewSource(5))
	for i := range 24 {
		all = append(all, randomTable(random, 1+i%8, 16+2*i))
	}
	return all
}

// The functions promise something for valid tables only.
func TestTablesAreValid(t *testing.T) {
	for i, x := range append(tables(), largeTables()...) {
		if !table.Valid(x) {
			t.Errorf("the table %d is not valid: %+v", i, x)
		}
	}
}

// toEnd returns rules that lead from a state to an accepting one, if there are any.
func toEnd(x api.Table, from api.State) ([]int, bool) {
	type step struct {
		s    api.State
		path []int
	}
	known := map[api.State]bool{from: true}
	for waiting := []step{{from, nil}}; len(waiting) > 0; waiting = waiting[1:] {
		p := waiting[0]
		if automaton.Accepts(x, p.s) {
			return p.path, true
		}
		for rule := range x.Rules {
			if next, ok := automaton.Step(x, p.s, rule); ok && !known[next] {
				known[next] = true
				waiting = append(waiting, step{next, append(slices.Clip(p.path), rule)})
			}
		}
	}
	return nil, false
}

// found is what lists of rules show about cells, which are the keys as strings: the texts that are printed, and for cells that go on a path whose cells begin with them.
type found struct {
	texts map[string]map[string]bool
	paths map[string][]int
}

// key returns cells as a key.
func key(l []api.Cell) string {
	var k []byte
	for _, c := range l {
		k = append(k, byte(c))
	}
	return string(k)
}

// explore runs all lists of rules that write fewer than n cells, or n or a few more with their last rule.
func explore(x api.Table, n int) found {
	f := found{map[string]map[string]bool{}, map[string][]int{}}
	ends := map[api.State][]int{}
	var extend func(path []int)
	extend = func(path []int) {
		run := automaton.Run(x, path)
		if run.At < len(path) {
			return
		}
		if run.Ok {
			k := key(run.Cells)
			if f.texts[k] == nil {
				f.texts[k] = map[string]bool{}
			}
			f.texts[k][run.Text] = true
		}
		end, known := ends[run.End]
		if !known {
			end, known = toEnd(x, run.End)
			if known {
				ends[run.End] = end
			}
		}
		for k := 0; known && k <= len(run.Cells); k++ {
			f.paths[key(run.Cells[:k])] = slices.Concat(path, end)
		}
		for rule := 0; len(run.Cells) < n && rule < len(x.Rules); rule++ {
			extend(append(slices.Clip(path), rule))
		}
	}
	extend(nil)
	return f
}

// eachCells yields all lists of up to n cells of few kinds.
func eachCells(n int, yield func(l []api.Cell)) {
	var extend func(l []api.Cell)
	extend = func(l []api.Cell) {
		yield(l)
		for _, c := range []api.Cell{0, 1, 2, 3} {
			if len(l) < n {
				extend(append(slices.Clip(l), c))
			}
		}
	}
	extend(nil)
}

// place returns the greatest number of cells that go on, or 0, as lists of rules show it.
func (f found) place(l []api.Cell) int {
	n := 0
	for k := range len(l) + 1 {
		if f.paths[key(l[:k])] != nil {
			n = k
		}
	}
	return n
}

// checkCells compares all functions with what lists of rules show.
func checkCells(t *testing.T, x api.Table, f found, l []api.Cell) {
	t.Helper()
	want := slices.Sorted(maps.Keys(f.texts[key(l)]))
	if len(want) > 0 {
		checkRead(t, x, l, want[0], len(l), api.OK)
	} else {
		checkRead(t, x, l, "", f.place(l), api.ErrRead)
	}
	checkTexts(t, x, l, math.MaxInt, want, api.OK)
	checkTexts(t, x, l, len(want), want, api.OK)
	for most := range want {
		checkTexts(t, x, l, most, nil, api.ErrBig)
	}
	_, goes := f.paths[key(l)]
	checkGoes(t, x, l, goes)
}

// P4.1, P4.2, P4.3: the functions agree with what all lists of rules show, for all cells up to a length.
func TestAllCells(t *testing.T) {
	several, none, on := 0, 0, 0
	for _, x := range tables() {
		f := explore(x, 4)
		eachCells(4, func(l []api.Cell) {
			checkCells(t, x, f, l)
			switch texts := len(f.texts[key(l)]); {
			case texts > 1:
				several++
			case texts == 0 && f.paths[key(l)] != nil:
				on++
			case texts == 0:
				none++
			}
		})
	}
	if several < 1000 || none < 1000 || on < 1000 {
		t.Errorf("%d lists of cells with several texts, %d that go on only, %d that do not: too few", several, on, none)
	}
}

// P4.4: cells go on exactly if their beginnings do, and the place of cells that are not read is where they cease to.
func TestBeginnings(t *testing.T) {
	for _, x := range tables() {
		eachCells(4, func(l []api.Cell) {
			n := 0
			for n <= len(l) && Goes(x, l[:n]) {
				n++
			}
			for k := range len(l) + 1 {
				checkGoes(t, x, l[:k], k < n)
			}
			if text, at, e := Read(x, l); e != api.OK && (text != "" || at != max(0, n-1)) || e == api.OK && n <= len(l) {
				t.Errorf("Read(%v) = %q, %d, %v, but %d beginnings go on (table %+v)", l, text, at, e, n, x)
			}
		})
	}
}

// P4.5: cells that go on are the beginning of cells that are read, and a path shows which; of others, no cells behind them are read.
func TestCompletion(t *testing.T) {
	for _, x := range tables() {
		f := explore(x, 3)
		eachCells(3, func(l []api.Cell) {
			path, goes := f.paths[key(l)]
			checkGoes(t, x, l, goes)
			if !goes {
				return
			}
			run := automaton.Run(x, path)
			if !run.Ok || !slices.Equal(run.Cells[:len(l)], l) {
				t.Fatalf("the rules %v are no path for %v", path, l)
			}
			text, n, e := Read(x, run.Cells)
			if text > run.Text || n != len(run.Cells) || e != api.OK {
				t.Errorf("Read(%v) = %q, %d, %v, but there is %q (table %+v)", run.Cells, text, n, e, run.Text, x)
			}
		})
	}
}

// suffixes has the least texts of the rest of some cells from a place and a state on, at most limit of them.
type suffixes struct {
	x     api.Table
	l     []api.Cell
	limit int
	memo  map[place][]string
}

// leastTexts is a second source for cells that are too many for all lists of rules: the least texts, at most limit of them.
func leastTexts(x api.Table, l []api.Cell, limit int) []string {
	return suffixes{x, l, limit, map[place][]string{}}.texts(place{state: automaton.Start()})
}

// texts returns the least texts from a place on.
func (s suffixes) texts(p place) []string {
	if texts, known := s.memo[p]; known {
		return texts
	}
	var texts []string
	if p.at == len(s.l) && automaton.Accepts(s.x, p.state) {
		texts = append(texts, "")
	}
	for rule, r := range s.x.Rules {
		end := p.at + len(r.Cells)
		next, ok := automaton.Step(s.x, p.state, rule)
		if !ok || end > len(s.l) || !slices.Equal(s.l[p.at:end], r.Cells) {
			continue
		}
		for _, text := range s.texts(place{end, next}) {
			texts = append(texts, r.Print+text)
		}
	}
	slices.Sort(texts)
	texts = slices.Compact(texts)
	s.memo[p] = texts[:min(len(texts), s.limit)]
	return s.memo[p]
}

// randomPath returns a path of some rules that are chosen by chance, as long as they lead to an end.
func randomPath(random *rand.Rand, x api.Table, n int) ([]int, bool) {
	var path []int
	for s := automaton.Start(); ; {
		end, ok := toEnd(x, s)
		if !ok {
			return nil, false
		}
		if len(path) >= n {
			return append(path, end...), true
		}
		moved := false
		for _, rule := range random.Perm(len(x.Rules)) {
			next, ok := automaton.Step(x, s, rule)
			if !ok {
				continue
			}
			if _, ok := toEnd(x, next); ok {
				path, s, moved = append(path, rule), next, true
				break
			}
		}
		if !moved {
			return append(path, end...), true
		}
	}
}

// checkLeast compares Read and Texts with the second source for many cells, and returns its texts, of which there may be more than that if there are limit of them.
func checkLeast(t *testing.T, x api.Table, l []api.Cell, limit int) []string {
	t.Helper()
	texts := leastTexts(x, l, limit)
	for _, most := range []int{0, 1, len(texts) / 2, len(texts) - 1, len(texts), limit - 1} {
		switch {
		case most < 0:
			checkTexts(t, x, l, most, nil, api.ErrArg)
		case most < len(texts):
			checkTexts(t, x, l, most, nil, api.ErrBig)
		case len(texts) < limit:
			checkTexts(t, x, l, most, texts, api.OK)
		}
	}
	if len(texts) > 0 {
		checkRead(t, x, l, texts[0], len(l), api.OK)
		checkGoes(t, x, l, true)
	}
	return texts
}

// P4.1, P4.2, P4.3: the text of a path is read from its cells, with all others and no more.
func TestPaths(t *testing.T) {
	const limit = 200
	random := rand.New(rand.NewSource(6))
	paths, several, many := 0, 0, 0
	for _, x := range append(tables(), largeTables()...) {
		for range 12 {
			path, ok := randomPath(random, x, 1+random.Intn(8))
			if !ok {
				continue
			}
			paths++
			run := automaton.Run(x, path)
			texts := checkLeast(t, x, run.Cells, limit)
			switch {
			case !run.Ok || len(texts) < limit && !slices.Contains(texts, run.Text) || texts[0] > run.Text:
				t.Errorf("the text of %v is not among %q", path, texts)
			case len(texts) == limit:
				many++
			case len(texts) > 1:
				several++
			}
		}
	}
	if paths < 1000 || several < 300 || many < 30 {
		t.Errorf("%d paths, of which %d write what a few other texts do, and %d what very many do: too few", paths, several, many)
	}
}

// P4.1, P4.4: cells of a path one of which is spoilt are read as the second source says, or the place is not ahead of that cell.
func TestSpoiltPaths(t *testing.T) {
	random := rand.New(rand.NewSource(7))
	refused := 0
	for _, x := range append(tables(), largeTables()...) {
		for range 6 {
			path, ok := randomPath(random, x, 4)
			l := slices.Clone(automaton.Run(x, path).Cells)
			if !ok || len(l) == 0 {
				continue
			}
			at := random.Intn(len(l))
			l[at] = api.Cell([]int{0, 1, 2, 3, 63, 64, 255}[random.Intn(7)])
			if len(checkLeast(t, x, l, 200)) > 0 {
				continue
			}
			refused++
			_, n, e := Read(x, l)
			if n < at || n > len(l) || e != api.ErrRead || !Goes(x, l[:n]) || n < len(l) && Goes(x, l[:n+1]) {
				t.Errorf("Read(%v): %d, %v, spoilt at %d (table %+v)", l, n, e, at, x)
			}
		}
	}
	if refused < 300 {
		t.Errorf("only %d spoilt cells are not read", refused)
	}
}
