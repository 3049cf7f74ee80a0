package admit

import (
	"maps"
	"math"
	"math/rand"
	"reflect"
	"slices"
	"strings"
	"testing"

	"sixdot/api"
	"sixdot/automaton"
	"sixdot/readback"
	"sixdot/table"
)

// randomRule returns a sound rule with few characters and cells of a few kinds.
func randomRule(random *rand.Rand, modes, kinds int) api.Rule {
	mask := func() uint8 {
		if random.Intn(3) > 0 {
			return 63
		}
		return uint8(1 + random.Intn(63))
	}
	r := api.Rule{Left: mask(), Right: mask(), From: random.Intn(modes), To: random.Intn(modes)}
	if random.Intn(12) == 0 {
		r.Print, r.Cells = string([]byte{byte(32 + 128*random.Intn(2))}), []api.Cell{0}
		return r
	}
	const characters = "abA1\xe1"
	for range random.Intn(5) {
		k := random.Intn(len(characters))
		r.Print += characters[k : k+1]
	}
	for range 1 + random.Intn(3)*random.Intn(2)*random.Intn(2) {
		r.Cells = append(r.Cells, api.Cell(1+random.Intn(kinds)))
	}
	return r
}

// plus returns a table with a further rule at some place, and the table itself if it has an equal one or no room.
func plus(x api.Table, at int, r api.Rule) api.Table {
	equal := func(y api.Rule) bool { return reflect.DeepEqual(y, r) }
	if len(x.Rules) == api.MaxRules || slices.ContainsFunc(x.Rules, equal) {
		return x
	}
	x.Rules = slices.Insert(slices.Clone(x.Rules), at, r)
	return x
}

// randomTable returns a valid table of n rules, or of fewer if they would be equal.
func randomTable(random *rand.Rand, modes, kinds, n int) api.Table {
	x := api.Table{Modes: modes, Accept: uint8(1 + random.Intn(1<<modes-1))}
	for range n {
		x = plus(x, len(x.Rules), randomRule(random, modes, kinds))
	}
	return x
}

// tables returns small tables, of which some are ambiguous, more or less soon.
func tables(seed int64, n int) []api.Table {
	all := admitted()
	for _, r := range clashes() {
		all = append(all, r.x)
	}
	random := rand.New(rand.NewSource(seed))
	for i := range n {
		all = append(all, randomTable(random, 1+i%3, 2+i%4, 2+i%7))
	}
	return all
}

// lists goes through all lists of rules that apply one after the other and write at most n cells, and returns the texts of those that are paths by their cells.
func lists(x api.Table, n int) map[string]map[string]bool {
	texts := map[string]map[string]bool{}
	var extend func(path []int)
	extend = func(path []int) {
		run := automaton.Run(x, path)
		if run.At < len(path) || len(run.Cells) > n {
			return
		}
		if run.Ok {
			k := key(run.Cells)
			if texts[k] == nil {
				texts[k] = map[string]bool{}
			}
			texts[k][run.Text] = true
		}
		for rule := range x.Rules {
			extend(append(slices.Clip(path), rule))
		}
	}
	extend(nil)
	return texts
}

// key returns cells as a string.
func key(l []api.Cell) string {
	var k []byte
	for _, c := range l {
		k = append(k, byte(c))
	}
	return string(k)
}

// shorter compares cells by their number, and those of the same number by the first ones that differ.
func shorter(a, b string) int {
	if len(a) != len(b) {
		return len(a) - len(b)
	}
	for i := range a {
		if a[i] != b[i] {
			return int(a[i]) - int(b[i])
		}
	}
	return 0
}

// P5.1, P5.2, P5.3: the clash is the first one that all lists of rules show; where they show none, there is none, or a longer one.
func TestAllLists(t *testing.T) {
	const n = 5
	lengths := map[int]int{}
	for _, x := range tables(5, 700) {
		var want api.Clash
		all := lists(x, n)
		for _, k := range slices.SortedFunc(maps.Keys(all), shorter) {
			if texts := slices.Sorted(maps.Keys(all[k])); len(texts) > 1 {
				want = clash(texts[0], texts[1], cellsOfKey(k)...)
				break
			}
		}
		c, e := Check(x)
		if want.Cells != nil {
			checkCheck(t, x, want, api.ErrClash)
		} else if e == api.ErrClash && len(c.Cells) <= n {
			t.Errorf("Check = %v, which no lists of rules show (table %+v)", c, x)
		}
		lengths[len(c.Cells)]++
	}
	for k, least := range []int{150, 150, 60, 20, 8, 3} {
		if lengths[k] < least {
			t.Errorf("only %d tables with clashes of %d cells", lengths[k], k)
		}
	}
}

// cellsOfKey returns the cells of a key.
func cellsOfKey(k string) []api.Cell {
	var l []api.Cell
	for _, b := range []byte(k) {
		l = append(l, api.Cell(b))
	}
	return l
}

// P5.1 (E3): what is proved is what all lists of rules show: two texts of the same cells.
func TestAllProofs(t *testing.T) {
	proofs := 0
	for i, x := range tables(6, 120) {
		all := lists(x, 3)
		keys := slices.Sorted(maps.Keys(all))
		random := rand.New(rand.NewSource(int64(i)))
		for _, k := range keys {
			texts := slices.Sorted(maps.Keys(all[k]))
			others := slices.Sorted(maps.Keys(all[keys[random.Intn(len(keys))]]))
			others = append(others[:min(len(others), 6)], "", texts[0]+"a", texts[0][:len(texts[0])/2])
			for _, a := range texts[:min(len(texts), 6)] {
				for _, b := range slices.Concat(texts[:min(len(texts), 6)], others) {
					want := a != b && all[k][b]
					if want {
						proofs++
					}
					checkProves(t, x, clash(a, b, cellsOfKey(k)...), want)
					checkProves(t, x, clash(b, a, cellsOfKey(k)...), want)
				}
			}
		}
	}
	if proofs < 1000 {
		t.Errorf("only %d proofs", proofs)
	}
}

// begun is what matters of a path of which some cells are written: the state ahead of its last rule, that rule with the number of its cells that are written (-1 and 0 if it is written in full), and the text that it has printed.
type begun struct {
	state         api.State
	rule, written int
	text          string
}

// meaning has the paths that have written some cells, each as the key of its own.
type meaning map[begun]bool

// write returns the paths of which one more cell is written.
func (m meaning) write(x api.Table, alive map[api.State]bool, cell api.Cell) meaning {
	next := meaning{}
	for b := range m {
		for rule, r := range x.Rules {
			if b.rule >= 0 && b.rule != rule || r.Cells[b.written] != cell {
				continue
			}
			after, ok := automaton.Step(x, b.state, rule)
			if !ok || !alive[after] {
				continue
			}
			if b.written+1 < len(r.Cells) {
				next[begun{b.state, rule, b.written + 1, b.text}] = true
			} else {
				next[begun{after, -1, 0, b.text + r.Print}] = true
			}
		}
	}
	return next
}

// ends returns the texts that may end.
func (m meaning) ends(x api.Table) map[string]bool {
	texts := map[string]bool{}
	for b := range m {
		if b.rule < 0 && automaton.Accepts(x, b.state) {
			texts[b.text] = true
		}
	}
	return texts
}

// relative returns the paths without what all their texts begin with.
func (m meaning) relative() meaning {
	least, greatest, any := "", "", false
	for b := range m {
		if !any || b.text < least {
			least = b.text
		}
		if !any || b.text > greatest {
			greatest = b.text
		}
		any = true
	}
	n := 0
	for n < len(least) && n < len(greatest) && least[n] == greatest[n] {
		n++
	}
	shorter := meaning{}
	for b := range m {
		b.text = b.text[n:]
		shorter[b] = true
	}
	return shorter
}

// living returns the states from which an end can be reached.
func living(x api.Table) map[api.State]bool {
	alive := map[api.State]bool{}
	for k, s := range automaton.States(x) {
		alive[s] = automaton.Alive(x)[k]
	}
	return alive
}

// firstClash is a second source of the cells of a clash: it follows all that each list of cells may mean, shorter ones first, and passes over those that mean the same as earlier ones. It returns whether it came to a result within so many lists.
func firstClash(x api.Table, most int) (cells string, found, done bool) {
	type listed struct {
		cells string
		means meaning
	}
	alive := living(x)
	known := []meaning{{begun{automaton.Start(), -1, 0, ""}: true}}
	for waiting := []listed{{"", known[0]}}; len(waiting) > 0; waiting = waiting[1:] {
		for cell := range api.Full {
			next := listed{waiting[0].cells + string([]byte{byte(cell)}), waiting[0].means.write(x, alive, cell)}
			if len(next.means.ends(x)) > 1 {
				return next.cells, true, true
			}
			next.means = next.means.relative()
			same := func(m meaning) bool { return maps.Equal(m, next.means) }
			if len(next.means) == 0 || slices.ContainsFunc(known, same) {
				continue
			}
			if len(known) == most {
				return "", false, false
			}
			known = append(known, next.means)
			waiting = append(waiting, next)
		}
	}
	return "", false, true
}

// P5.1, P5.2: clashes of any length, and tables without any, as a second source finds them that compares all texts of the same cells.
func TestAllMeanings(t *testing.T) {
	long, none, open := 0, 0, 0
	for _, x := range append(tables(7, 1200), mediumTables()...) {
		cells, found, done := firstClash(x, 60)
		c, e := Check(x)
		switch {
		case !done:
			open++
			if e == api.ErrClash {
				checkClash(t, x, c)
			}
		case !found:
			none++
			checkCheck(t, x, api.Clash{}, api.OK)
		default:
			texts, _ := readback.Texts(x, cellsOfKey(cells), math.MaxInt)
			checkCheck(t, x, clash(texts[0], texts[1], cellsOfKey(cells)...), api.ErrClash)
			if len(cells) > 5 {
				long++
			}
		}
	}
	if long < 30 || none < 300 || open > 300 {
		t.Errorf("%d long clashes, %d tables without one, %d tables of which the second source knows nothing", long, none, open)
	}
}

// mediumTables returns tables of more rules, whose clashes are longer.
func mediumTables() []api.Table {
	var all []api.Table
	random := rand.New(rand.NewSource(8))
	for i := range 1000 {
		all = append(all, randomTable(random, 1+i%8, 4+i%20, 8+i%30))
	}
	return all
}

// largeTables returns tables of up to the most rules and modes.
func largeTables() []api.Table {
	var all []api.Table
	random := rand.New(rand.NewSource(9))
	for i := range 160 {
		all = append(all, randomTable(random, 1+i%8, 20+i%43, 24+i%41))
	}
	return all
}

// checkClash checks that a clash proves something, and has the two least texts.
func checkClash(t *testing.T, x api.Table, c api.Clash) {
	t.Helper()
	checkProves(t, x, c, true)
	texts, e := readback.Texts(x, c.Cells, 10000)
	if e != api.OK || len(texts) < 2 || texts[0] != c.A || texts[1] != c.B {
		t.Errorf("the texts of the clash %v are %q, %v (table %+v)", c, texts, e, x)
	}
}

// P5.2: what is refused is proved to be ambiguous; beginnings of the cells, and the cells without some, have one text at most.
func TestClashesProve(t *testing.T) {
	refused, long := 0, 0
	for _, x := range slices.Concat(tables(10, 300), mediumTables(), largeTables()) {
		c, e := Check(x)
		if e != api.ErrClash {
			continue
		}
		refused++
		checkClash(t, x, c)
		if len(c.Cells) > 4 {
			long++
		}
		for i := range c.Cells {
			for _, l := range [][]api.Cell{c.Cells[:i], c.Cells[i+1:], slices.Delete(slices.Clone(c.Cells), i, i+1)} {
				if texts, e := readback.Texts(x, l, 1); e != api.OK {
					t.Errorf("%v have more texts than %q, but the clash is %v (table %+v)", l, texts, c, x)
				}
			}
			for cell := range c.Cells[i] {
				l := slices.Clone(c.Cells)
				l[i] = cell
				if texts, e := readback.Texts(x, l, 1); e != api.OK {
					t.Errorf("%v have more texts than %q, but the clash is %v (table %+v)", l, texts, c, x)
				}
			}
		}
	}
	if refused < 500 || long < 60 {
		t.Errorf("only %d clashes, %d of them long", refused, long)
	}
}

// randomPath returns a path that begins with some rules that are chosen by chance.
func randomPath(random *rand.Rand, x api.Table, alive map[api.State]bool) []int {
	var path []int
	s := automaton.Start()
	for n := 0; alive[s] && n < 200; n++ {
		if automaton.Accepts(x, s) && n > 3 && random.Intn(4) == 0 {
			return path
		}
		for _, rule := range random.Perm(len(x.Rules)) {
			if next, ok := automaton.Step(x, s, rule); ok && alive[next] {
				path, s = append(path, rule), next
				break
			}
		}
	}
	return nil
}

// P5.3: the cells of a path of an admitted table have its text alone.
func TestUniqueReading(t *testing.T) {
	random := rand.New(rand.NewSource(11))
	paths := 0
	for _, x := range slices.Concat(tables(12, 300), mediumTables(), largeTables()) {
		if !Admitted(x) {
			continue
		}
		alive := living(x)
		for range 10 {
			run := automaton.Run(x, randomPath(random, x, alive))
			if !run.Ok {
				continue
			}
			paths++
			if texts, e := readback.Texts(x, run.Cells, 1); e != api.OK || !slices.Equal(texts, []string{run.Text}) {
				t.Errorf("%v has the texts %q, %v, not %q (table %+v)", run.Cells, texts, e, run.Text, x)
			}
		}
	}
	if paths < 1500 {
		t.Errorf("only %d paths", paths)
	}
}

// P5.4: rules in another order give the same result.
func TestOrder(t *testing.T) {
	random := rand.New(rand.NewSource(13))
	for _, x := range slices.Concat(tables(14, 150), mediumTables()[:200], largeTables()[:40]) {
		c, e := Check(x)
		for range 4 {
			random.Shuffle(len(x.Rules), func(i, k int) { x.Rules[i], x.Rules[k] = x.Rules[k], x.Rules[i] })
			checkCheck(t, x, c, e)
		}
		slices.Reverse(x.Rules)
		checkCheck(t, x, c, e)
	}
}

// P5.5: an ambiguous table with more rules, or more modes in which texts may end, is refused with a clash that is not longer, and not a greater one of the same length.
func TestGrowth(t *testing.T) {
	random := rand.New(rand.NewSource(15))
	grown, shortened := 0, 0
	for _, x := range slices.Concat(tables(16, 150), mediumTables()[:200], largeTables()[:40]) {
		before, e := Check(x)
		if e != api.ErrClash {
			continue
		}
		for range 6 {
			y := plus(x, random.Intn(len(x.Rules)+1), randomRule(random, x.Modes, 6))
			y.Accept |= 1 << random.Intn(x.Modes)
			c, e := Check(y)
			if e != api.ErrClash || shorter(key(c.Cells), key(before.Cells)) > 0 {
				t.Errorf("Check = %v, %v, but without some rules %v (table %+v)", c, e, before, y)
			}
			checkProves(t, y, before, true)
			checkProves(t, y, c, true)
			grown++
			if len(c.Cells) < len(before.Cells) {
				shortened++
			}
		}
	}
	if grown < 1000 || shortened < 100 {
		t.Errorf("%d tables with more rules, %d of them with shorter clashes: too few", grown, shortened)
	}
}

// prefixFree returns a table of one mode without conditions in which the cells of no rule begin with those of another one.
func prefixFree(random *rand.Rand, n int) api.Table {
	x := one()
	begins := func(a, b []api.Cell) bool { return len(a) <= len(b) && slices.Equal(a, b[:len(a)]) }
	for range 4 * n {
		r := randomRule(random, 1, 5)
		r.Left, r.Right = 63, 63
		fits := func(y api.Rule) bool { return begins(y.Cells, r.Cells) || begins(r.Cells, y.Cells) }
		if len(x.Rules) < n && !slices.ContainsFunc(x.Rules, fits) {
			x.Rules = append(x.Rules, r)
		}
	}
	return x
}

// P5.6: such a code is admitted; with the cells turned round, in which the cells of no rule end with those of another one, too.
func TestCodes(t *testing.T) {
	random := rand.New(rand.NewSource(17))
	rules := 0
	for i := range 300 {
		x := prefixFree(random, 2+i%40)
		rules += len(x.Rules)
		if !table.Valid(x) {
			t.Fatalf("a code is not valid: %+v", x)
		}
		checkCheck(t, x, api.Clash{}, api.OK)
		for k, r := range x.Rules {
			l := slices.Clone(r.Cells)
			slices.Reverse(l)
			x.Rules[k].Cells = l
		}
		checkCheck(t, x, api.Clash{}, api.OK)
	}
	if rules < 1500 {
		t.Errorf("only %d rules", rules)
	}
}

// delayed returns a table whose rules print what their cells mean, but may hold back the end of it, which the mode says, until a later one.
func delayed(random *rand.Rand) api.Table {
	means := []string{"a", "b", "ab"}
	held := []string{"", "", "b", "ab", "ba", "aab"}
	x := several(len(held), 3)
	for range 60 {
		r := api.Rule{Left: 63, Right: 63, From: random.Intn(len(held)), To: random.Intn(len(held))}
		text := held[r.From]
		for range 1 + random.Intn(3) {
			cell := random.Intn(len(means))
			r.Cells = append(r.Cells, api.Cell(1+cell))
			text += means[cell]
		}
		print, ok := strings.CutSuffix(text, held[r.To])
		if r.Print = print; ok && len(print) <= api.MaxPrint {
			x = plus(x, len(x.Rules), r)
		}
	}
	return x
}

// P5.1, P5.3: paths that print the same text at different cells do no harm; if one of them prints another text, the second source agrees.
func TestDelayedTexts(t *testing.T) {
	random := rand.New(rand.NewSource(19))
	refused := 0
	for range 300 {
		x := delayed(random)
		checkCheck(t, x, api.Clash{}, api.OK)
		x.Rules[random.Intn(len(x.Rules))].Print += "c"
		if !table.Valid(x) {
			continue
		}
		cells, found, done := firstClash(x, 100)
		if !done {
			continue
		}
		if !found {
			checkCheck(t, x, api.Clash{}, api.OK)
			continue
		}
		refused++
		texts, _ := readback.Texts(x, cellsOfKey(cells), math.MaxInt)
		checkCheck(t, x, clash(texts[0], texts[1], cellsOfKey(cells)...), api.ErrClash)
	}
	if refused < 100 {
		t.Errorf("only %d tables are refused", refused)
	}
}

// P5.6: a full code of four cells of two kinds, and one of all single cells.
func TestFullCodes(t *testing.T) {
	x := one()
	for i := range 16 {
		l := []api.Cell{api.Cell(1 + i&1), api.Cell(1 + i>>1&1), api.Cell(1 + i>>2&1), api.Cell(1 + i>>3)}
		x.Rules = append(x.Rules, rule(string([]byte{byte('a' + i)}), l...))
	}
	checkCheck(t, x, api.Clash{}, api.OK)
	checkCheck(t, plus(x, 3, rule("z", 1)), clash("a", "zzzz", cells(4, 1)...), api.ErrClash)
	y := one(rule(" ", 0))
	for c := api.Cell(1); c < api.Full; c++ {
		y.Rules = append(y.Rules, rule(string([]byte{byte('!' + c)}), c))
	}
	checkCheck(t, y, api.Clash{}, api.OK)
	checkCheck(t, plus(y, 0, rule("..", 9)), clash("*", "..", 9), api.ErrClash)
}

// P5.7: a rule that writes what two others write, one after the other, and prints another text, makes a code ambiguous in at most as many cells.
func TestPlantedClashes(t *testing.T) {
	random := rand.New(rand.NewSource(18))
	planted := 0
	for i := range 400 {
		x := prefixFree(random, 2+i%30)
		a, b := x.Rules[random.Intn(len(x.Rules))], x.Rules[random.Intn(len(x.Rules))]
		r := randomRule(random, 1, 6)
		r.Left, r.Right, r.Cells = 63, 63, slices.Concat(a.Cells, b.Cells)
		y := plus(x, random.Intn(len(x.Rules)+1), r)
		if r.Print == a.Print+b.Print || !table.Valid(y) || len(y.Rules) == len(x.Rules) {
			continue
		}
		planted++
		c, e := Check(y)
		if e != api.ErrClash || len(c.Cells) > len(r.Cells) {
			t.Errorf("Check = %v, %v with the planted rule %+v (table %+v)", c, e, r, y)
		}
		checkProves(t, y, clash(r.Print, a.Print+b.Print, r.Cells...), true)
	}
	if planted < 150 {
		t.Errorf("only %d rules were planted", planted)
	}
}

// P5.7: the same between modes, and with conditions; it counts only as far as the texts may end there.
func TestPlantedBetweenModes(t *testing.T) {
	x := several(3, 4, modes(0, 1, "a", 1), modes(1, 2, "b", 3), modes(2, 0, "-", 36))
	checkCheck(t, x, api.Clash{}, api.OK)
	checkCheck(t, plus(x, 1, modes(0, 2, "c", 1, 3)), clash("ab", "c", 1, 3), api.ErrClash)
	checkCheck(t, plus(x, 1, modes(0, 2, "ab", 1, 3)), api.Clash{}, api.OK)
	checkCheck(t, plus(x, 0, modes(0, 0, "c", 1, 3)), api.Clash{}, api.OK)
	inside := modes(0, 2, "c", 1, 3)
	inside.Right = 62
	checkCheck(t, plus(x, 0, inside), clash("ab-ab", "c-ab", 1, 3, 36, 1, 3), api.ErrClash)
	inside.Right = 2
	checkCheck(t, plus(x, 0, inside), api.Clash{}, api.OK)
	inside.Left, inside.Right = 32, 63
	checkCheck(t, plus(x, 3, inside), clash("ab-ab", "ab-c", 1, 3, 36, 1, 3), api.ErrClash)
	inside.Left = 16
	checkCheck(t, plus(x, 3, inside), api.Clash{}, api.OK)
}
