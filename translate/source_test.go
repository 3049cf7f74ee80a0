package translate

import (
	"math/rand"
	"slices"
	"strings"
	"testing"

	"sixdot/admit"
	"sixdot/api"
	"sixdot/automaton"
	"sixdot/internal/sample"
	"sixdot/readback"
	"sixdot/table"
)

// mixed are characters of all classes but the space; few are those of small tables.
const (
	mixed = "aaabbA1-\xe1"
	few   = "aab1"
)

// maker returns a maker of rules and tables by chance: of so many modes and kinds of cells, and of some characters.
func maker(random *rand.Rand, modes, kinds int, characters string) sample.Maker {
	return sample.Maker{Pick: random.Intn, Modes: modes, Kinds: kinds, Characters: characters}
}

// small returns tables of few rules.
func small(seed int64, n int) []api.Table {
	random := rand.New(rand.NewSource(seed))
	all := valid()
	for i := range n {
		all = append(all, maker(random, 1+i%3, 2+i%3, few).Table(3+i%6))
	}
	return all
}

// large returns tables of up to the most rules and modes.
func large(seed int64, n int) []api.Table {
	random := rand.New(rand.NewSource(seed))
	var all []api.Table
	for i := range n {
		all = append(all, maker(random, 1+i%8, 62, mixed).Table(12+i%53))
	}
	return all
}

// The properties are about valid tables.
func TestRandomTablesAreValid(t *testing.T) {
	for _, x := range append(small(1, 500), large(2, 100)...) {
		if _, e := table.Check(x); e != api.OK {
			t.Errorf("a table is not valid: %+v", x)
		}
	}
}

// randomText returns what some rules print that are chosen by chance, with a character changed by chance in some texts.
func randomText(random *rand.Rand, x api.Table, rules int) string {
	text := []byte(sample.Printed(x, rules, random.Perm))
	if len(text) > 0 && random.Intn(4) == 0 {
		text[random.Intn(len(text))] = mixed[random.Intn(len(mixed))]
	}
	return string(text)
}

// lists returns all paths of a text that write at most n cells, in increasing order, and the greatest place that rules reach with so many cells.
func lists(x api.Table, s string, n int) ([][]int, int) {
	var paths [][]int
	greatest := 0
	var extend func(path []int)
	extend = func(path []int) {
		run := automaton.Run(x, path)
		rest, ok := strings.CutPrefix(s, run.Text)
		if run.At < len(path) || !ok || len(run.Cells) > n {
			return
		}
		if allowed(run.End, rest) {
			greatest = max(greatest, len(run.Text))
		}
		if run.Ok && rest == "" {
			paths = append(paths, path)
		}
		for rule := range x.Rules {
			extend(append(slices.Clip(path), rule))
		}
	}
	extend(nil)
	return paths, greatest
}

// allowed reports whether the rest of a text, or its end, may come next in a state.
func allowed(s api.State, rest string) bool {
	class := 0
	if rest != "" {
		class = table.Class(rest[0])
	}
	return s.Need>>class&1 == 1
}

// fewest returns the first one of the paths with the fewest cells.
func fewest(x api.Table, paths [][]int) []int {
	return slices.MinFunc(paths, func(a, b []int) int { return len(automaton.Run(x, a).Cells) - len(automaton.Run(x, b).Cells) })
}

// P6.1, P6.2, P6.4, P6.7: short texts are written, or refused, as all lists of rules show; each path of a text is accepted with its cells, and with its text only.
func TestAllLists(t *testing.T) {
	const n = 5
	written, refused, several := 0, 0, 0
	for _, x := range small(3, 800) {
		for _, s := range sample.Texts("ab1", 3) {
			paths, greatest := lists(x, s, n)
			w, at, e := Write(x, s)
			switch {
			case len(paths) > 0:
				written++
				checkWriting(t, x, s, fewest(x, paths)...)
			case e == api.OK:
				if len(w.Cells) <= n || !Writes(x, w, s) {
					t.Errorf("Write(%q) = %v, which no list of rules shows (table %+v)", s, w, x)
				}
			default:
				refused++
				checkRefused(t, x, s, at, api.ErrSign)
				if at < greatest || at > len(s) {
					t.Errorf("Write(%q) = %d, but %d is reached (table %+v)", s, at, greatest, x)
				}
			}
			if len(paths) > 1 {
				several++
			}
			for _, path := range paths {
				checkPath(t, x, path, s)
			}
		}
	}
	if written < 2000 || refused < 10000 || several < 800 {
		t.Errorf("%d texts are written, %d by several paths, and %d refused: too few", written, several, refused)
	}
}

// checkPath checks that a path of a text is accepted with its cells, but not with others, nor with another text.
func checkPath(t *testing.T, x api.Table, path []int, s string) {
	t.Helper()
	check := func(l []api.Cell, path []int, s string, want bool) {
		t.Helper()
		if got := Writes(x, api.Writing{Cells: l, Path: path}, s); got != want {
			t.Errorf("Writes(%v, %v, %q) = %v (table %+v)", l, path, s, got, x)
		}
	}
	l := automaton.Run(x, path).Cells
	check(l, path, s, true)
	check(l, path, s+"a", false)
	check(append(slices.Clip(l), 0), path, s, false)
	if len(s) > 0 {
		check(l, path, s[1:], false)
		check(l, path, s[:len(s)-1], false)
	}
	for i := range l {
		other := slices.Clone(l)
		other[i] ^= 1
		check(other, path, s, false)
		check(l[:i], path, s, false)
	}
	for i, rule := range path {
		for other := range len(x.Rules) + 1 {
			changed := slices.Clone(path)
			changed[i] = other
			run := automaton.Run(x, changed)
			check(l, changed, s, run.Ok && run.Text == s && slices.Equal(run.Cells, l))
			check(run.Cells, changed, run.Text, run.Ok)
		}
		check(l, append(slices.Clip(path[:i]), -1-rule), s, false)
	}
}

// spot is a place in a text, and a state in which rules come there.
type spot struct {
	at    int
	state api.State
}

// came is a spot, and rules that come there.
type came struct {
	spot
	path []int
}

// forward is a second source for longer texts: it follows all rules from the first state on, fewer cells first, and keeps the least rules to each place and state as a whole. It returns the least path with the fewest cells, and without one the greatest place.
func forward(x api.Table, s string) ([]int, int, bool) {
	known := map[spot]bool{}
	greatest := 0
	for waiting := [][]came{{{spot{state: automaton.Start()}, nil}}}; len(waiting) > 0; waiting = waiting[1:] {
		slices.SortFunc(waiting[0], func(a, b came) int { return slices.Compare(a.path, b.path) })
		for _, c := range waiting[0] {
			if known[c.spot] {
				continue
			}
			known[c.spot] = true
			if allowed(c.state, s[c.at:]) {
				greatest = max(greatest, c.at)
			}
			if c.at == len(s) && automaton.Accepts(x, c.state) {
				return c.path, 0, true
			}
			for rule, r := range x.Rules {
				next, ok := automaton.Step(x, c.state, rule)
				if !ok || !strings.HasPrefix(s[c.at:], r.Print) {
					continue
				}
				for len(waiting) <= len(r.Cells) {
					waiting = append(waiting, nil)
				}
				waiting[len(r.Cells)] = append(waiting[len(r.Cells)], came{spot{c.at + len(r.Print), next}, append(slices.Clip(c.path), rule)})
			}
		}
	}
	return nil, greatest, false
}

// P6.1, P6.2, P6.4: texts of any length are written, or refused, as the second source says.
func TestForward(t *testing.T) {
	random := rand.New(rand.NewSource(4))
	written, refused, long := 0, 0, 0
	for i, x := range append(small(5, 1500), large(6, 400)...) {
		for k := range 6 {
			s := randomText(random, x, 3+5*k+i%7)
			path, at, ok := forward(x, s)
			if !ok {
				refused++
				checkRefused(t, x, s, at, api.ErrSign)
				continue
			}
			written++
			checkWriting(t, x, s, path...)
			if len(s) > 20 {
				long++
			}
		}
	}
	if written < 5000 || refused < 3000 || long < 1500 {
		t.Errorf("%d texts are written, %d of them long, and %d refused: too few", written, long, refused)
	}
}

// P6.4: beyond the place at which a text is refused, any other end is refused at the same place or written; the part that is reached can be reached alone.
func TestPlaces(t *testing.T) {
	random := rand.New(rand.NewSource(7))
	places := map[int]int{}
	for i, x := range append(small(8, 400), large(9, 200)...) {
		s := randomText(random, x, 4+i%20) + mixed[i%9:i%9+1] + randomText(random, x, 3)
		_, at, e := Write(x, s)
		if e != api.ErrSign {
			continue
		}
		places[min(at, 8)]++
		// What stands more than four bytes behind the place cannot matter.
		end := min(at+api.MaxPrint+1, len(s))
		for _, rest := range []string{"", "a", "1-", "\xe1\xe1 ab"} {
			if end < len(s) {
				checkRefused(t, x, s[:end]+rest, at, api.ErrSign)
			}
		}
		if at < len(s) && at > 0 {
			if _, k, e := Write(x, s[:at]+s[at:at+1]); e == api.ErrSign && k < at {
				t.Errorf("Write(%q) is refused at %d, Write(%q) at %d (table %+v)", s, at, s[:at+1], k, x)
			}
		}
	}
	for at := range 8 {
		if places[at] < 5 {
			t.Errorf("only %d texts are refused at %d", places[at], at)
		}
	}
}

// eachCells yields all lists of n cells that rules of a table may write.
func eachCells(x api.Table, n int, yield func(l []api.Cell)) {
	used := map[api.Cell]bool{}
	for _, r := range x.Rules {
		for _, c := range r.Cells {
			used[c] = true
		}
	}
	l := make([]api.Cell, n)
	var fill func(i int)
	fill = func(i int) {
		if i == n {
			yield(l)
			return
		}
		for c := range used {
			l[i] = c
			fill(i + 1)
		}
	}
	fill(0)
}

// P6.3: with an admitted table, the cells are read back as the text, and no fewer cells are.
func TestReading(t *testing.T) {
	random := rand.New(rand.NewSource(10))
	read, shorter := 0, 0
	for i, x := range append(small(11, 600), large(12, 80)...) {
		if !admit.Admitted(x) {
			continue
		}
		for k := range 8 {
			s := randomText(random, x, k+i%3)
			w, _, e := Write(x, s)
			if e != api.OK {
				continue
			}
			read++
			if text, n, e := readback.Read(x, w.Cells); text != s || n != len(w.Cells) || e != api.OK {
				t.Errorf("%v is read as %q, %d, %v, not as %q (table %+v)", w.Cells, text, n, e, s, x)
			}
			if len(x.Rules) > 12 || len(w.Cells) > 5 {
				continue
			}
			for n := range w.Cells {
				eachCells(x, n, func(l []api.Cell) {
					shorter++
					if text, _, e := readback.Read(x, l); text == s && e == api.OK {
						t.Errorf("%v is read as %q, which is written as %v (table %+v)", l, s, w.Cells, x)
					}
				})
			}
		}
	}
	if read < 800 || shorter < 10000 {
		t.Errorf("%d texts are read, and %d lists of fewer cells: too few", read, shorter)
	}
}

// P6.5: with more rules, a text is written with at most as many cells, and the old path is still one; it is refused at the same place, or at a greater one.
func TestMoreRules(t *testing.T) {
	random := rand.New(rand.NewSource(13))
	fewer, equal, new := 0, 0, 0
	for i, x := range append(small(14, 1200), large(15, 200)...) {
		s := randomText(random, x, 2+i%12)
		for range 8 {
			w, at, e := Write(x, s)
			y := sample.With(x, maker(random, x.Modes, 5, few).Rule())
			v, now, f := Write(y, s)
			switch {
			case e == api.OK && (f != api.OK || len(v.Cells) > len(w.Cells) || !Writes(y, w, s)):
				t.Errorf("Write(%q) = %v, %v, and without the last rule %v (table %+v)", s, v, f, w, y)
			case e != api.OK && f != api.OK && now < at:
				t.Errorf("Write(%q) is refused at %d, and without the last rule at %d (table %+v)", s, now, at, y)
			case e == api.OK && len(v.Cells) < len(w.Cells):
				fewer++
			case e == api.OK:
				equal++
			case f == api.OK:
				new++
			}
			x = y
		}
	}
	if fewer < 100 || equal < 1000 || new < 50 {
		t.Errorf("%d texts have fewer cells, %d as many, %d were not written before: too few", fewer, equal, new)
	}
}

// P6.6: in tables of one mode without conditions, two texts together cost at most what both cost, and a rule behind a text at most its cells.
func TestParts(t *testing.T) {
	random := rand.New(rand.NewSource(16))
	fewer, parts := 0, 0
	for i := range 400 {
		x := code(1, 1)
		for range 3 + i%40 {
			x = sample.With(x, between(63, 63, maker(random, 1, 62, few).Rule()))
		}
		for k := range 6 {
			a, b := randomText(random, x, k), randomText(random, x, 5-k+i%4)
			costA, costB := Cost(x, a), Cost(x, b)
			if costA < 0 || costB < 0 {
				continue
			}
			parts++
			cost := Cost(x, a+b)
			if cost < 0 || cost > costA+costB {
				t.Errorf("Cost(%q) = %d, but %q costs %d and %q costs %d (table %+v)", a+b, cost, a, costA, b, costB, x)
			}
			if cost < costA+costB {
				fewer++
			}
			for _, r := range x.Rules {
				if cost := Cost(x, a+r.Print); cost < 0 || cost > costA+len(r.Cells) {
					t.Errorf("Cost(%q) = %d, but %q costs %d and a rule that prints the rest has %d cells (table %+v)", a+r.Print, cost, a, costA, len(r.Cells), x)
				}
			}
		}
	}
	if parts < 1000 || fewer < 100 {
		t.Errorf("%d pairs of texts, %d of which cost less than both parts: too few", parts, fewer)
	}
}
