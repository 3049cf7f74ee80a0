package admit

import (
	"math"
	"reflect"
	"slices"
	"strings"
	"testing"

	"sixdot/api"
	"sixdot/table"
)

// rule returns a rule of the mode 0 without conditions.
func rule(print string, cells ...api.Cell) api.Rule {
	return api.Rule{Print: print, Cells: cells, Left: 63, Right: 63}
}

// between returns a rule of the mode 0 between characters of some classes.
func between(left, right uint8, print string, cells ...api.Cell) api.Rule {
	return api.Rule{Print: print, Cells: cells, Left: left, Right: right}
}

// modes returns a rule without conditions that leads from a mode to a mode.
func modes(from, to int, print string, cells ...api.Cell) api.Rule {
	return api.Rule{Print: print, Cells: cells, Left: 63, Right: 63, From: from, To: to}
}

// one returns a table of one mode.
func one(rules ...api.Rule) api.Table {
	return api.Table{Modes: 1, Accept: 1, Rules: rules}
}

// several returns a table of some modes.
func several(n int, accept uint8, rules ...api.Rule) api.Table {
	return api.Table{Modes: n, Accept: accept, Rules: rules}
}

// numbers returns the table of the examples of layer 3: a letter, a sign ahead of digits, a digit, and a space behind it.
func numbers() api.Table {
	sign := modes(0, 1, "", 60)
	sign.Right = 8
	return several(2, 3, rule("a", 1), sign, modes(1, 1, "1", 1), modes(1, 0, " ", 0))
}

// words returns a table in which the same cell is a whole word between edges or spaces, and a letter elsewhere; a letter may stand alone, too.
func words(alone bool) api.Table {
	x := one(between(17, 17, "the", 2), between(46, 63, "t", 2), between(63, 46, "t", 2), rule("a", 1), between(46, 46, " ", 0))
	if alone {
		x.Rules = append(x.Rules, rule("t", 2))
	}
	return x
}

// cells returns n equal cells.
func cells(n int, c api.Cell) []api.Cell {
	return slices.Repeat([]api.Cell{c}, n)
}

// clash returns the clash of two texts.
func clash(a, b string, l ...api.Cell) api.Clash {
	return api.Clash{Cells: l, A: a, B: b}
}

// checkCheck checks Check, and Admitted, which depends on it.
func checkCheck(t *testing.T, x api.Table, want api.Clash, wantE api.Errno) {
	t.Helper()
	c, e := Check(x)
	if !slices.Equal(c.Cells, want.Cells) || c.A != want.A || c.B != want.B || e != wantE {
		t.Errorf("Check = %v, %v, not %v, %v (table %+v)", c, e, want, wantE, x)
	}
	if got := Admitted(x); got != (wantE == api.OK) {
		t.Errorf("Admitted = %v (table %+v)", got, x)
	}
}

// checkProves checks a result of Proves.
func checkProves(t *testing.T, x api.Table, c api.Clash, want bool) {
	t.Helper()
	if got := Proves(x, c); got != want {
		t.Errorf("Proves(%v) = %v (table %+v)", c, got, x)
	}
}

// refused is a table that is ambiguous, with its clash.
type refused struct {
	x api.Table
	c api.Clash
}

// clashes returns tables that are ambiguous.
func clashes() []refused {
	var all []refused
	add := func(x api.Table, c api.Clash) { all = append(all, refused{x, c}) }
	// The chapter's examples.
	add(one(rule("a", 1), rule("b", 3), rule("c", 1, 3)), clash("ab", "c", 1, 3))
	add(one(rule("a", 1), rule("b", 1)), clash("a", "b", 1))
	add(one(rule("a", 1, 3), rule("b", 1), rule("c", 3, 3), rule("d", 3)), clash("a", "bd", 1, 3))
	// The shortest cells, and the least ones of these.
	add(one(rule("a", 5), rule("b", 5), rule("c", 1, 1), rule("d", 1, 1)), clash("a", "b", 5))
	add(one(rule("a", 5), rule("b", 5), rule("c", 1), rule("d", 1)), clash("c", "d", 1))
	add(one(rule("a", 3, 9), rule("b", 3, 9), rule("c", 3, 2), rule("d", 3, 2)), clash("c", "d", 3, 2))
	add(one(rule("a", 3, 9), rule("b", 3, 9), rule("c", 4, 2), rule("d", 4, 2)), clash("a", "b", 3, 9))
	add(one(rule("c", 62), rule("a", 61), rule("d", 62), rule("b", 61)), clash("a", "b", 61))
	add(one(rule("a", 1), rule("b", 1), rule(" ", 0), rule("\xa0", 0)), clash(" ", "\xa0", 0))
	// The least text, and the least other one.
	add(one(rule("d", 1), rule("b", 1), rule("c", 1), rule("e", 1)), clash("b", "c", 1))
	add(one(rule("b", 1), rule("a", 1), rule("a", 2), rule("aa", 1)), clash("a", "aa", 1))
	add(one(rule("ab", 1), rule("a", 1, 1), rule("b", 1, 1), rule("abab", 1, 1)), clash("a", "abab", 1, 1))
	add(one(rule("\xe1", 1), rule("~", 1), rule("z", 1)), clash("z", "~", 1))
	add(one(rule("\xe1", 1), rule("\xe2", 1)), clash("\xe1", "\xe2", 1))
	add(one(rule("Z", 1), rule("a", 1)), clash("Z", "a", 1))
	// A text may be empty, and one may be the beginning of the other.
	add(one(rule("a", 1), rule("", 1)), clash("", "a", 1))
	add(one(rule("", 1), rule("a", 1, 1, 1)), clash("", "a", 1, 1, 1))
	add(one(rule("a", 1), rule("aaaa", 1, 1, 1)), clash("aaa", "aaaa", 1, 1, 1))
	add(one(rule("a", 1), rule("aaaa", 1, 1, 1, 1), rule("aa", 1, 1, 1)), clash("aa", "aaa", 1, 1, 1))
	// Rules that end at different cells.
	add(one(rule("a", 1), rule("b", 1, 2), rule("c", 2, 1)), clash("ac", "ba", 1, 2, 1))
	add(one(rule("a", 1, 2, 3, 4), rule("b", 1, 2), rule("c", 3), rule("d", 4, 5), rule("e", 5)), clash("ae", "bcd", 1, 2, 3, 4, 5))
	// The first way to come to two positions with the same cells leaves the texts equal, a later one does not.
	add(several(3, 2, modes(0, 1, "a", 1), modes(0, 2, "ab", 1), modes(1, 1, "b", 2), modes(2, 1, "", 2), modes(0, 1, "a", 3), modes(0, 2, "ac", 3)), clash("ab", "ac", 3, 2))
	add(several(4, 2, modes(0, 1, "a", 1), modes(0, 2, "ab", 1), modes(1, 1, "b", 2), modes(2, 1, "", 2), modes(0, 3, "", 3), modes(3, 1, "a", 3), modes(3, 2, "aba", 3)), clash("ab", "aba", 3, 3, 2))
	add(several(4, 2, modes(0, 1, "a", 9), modes(0, 2, "ab", 9), modes(1, 1, "b", 2), modes(2, 1, "", 2), modes(0, 3, "", 3), modes(3, 1, "ab", 3), modes(3, 2, "a", 3)), clash("a", "abb", 3, 3, 2))
	// Modes and classes may let two texts stand for the same cells.
	add(words(true), clash("t", "the", 2))
	add(several(2, 3, append(numbers().Rules, modes(1, 0, "1", 1))...), clash("11", "1a", 60, 1, 1))
	add(several(2, 3, modes(0, 1, "", 1), modes(0, 0, "b", 3), modes(1, 1, "a", 3), modes(0, 0, "", 1)), clash("a", "b", 1, 3))
	return all
}

// P5.1 (E1, E2): the clash of ambiguous tables.
func TestClashes(t *testing.T) {
	for _, r := range clashes() {
		checkCheck(t, r.x, r.c, api.ErrClash)
	}
}

// admitted returns tables that are not ambiguous.
func admitted() []api.Table {
	sign := modes(0, 1, "", 1)
	sign.Right = 4
	return []api.Table{
		// The chapter's examples.
		one(rule("a", 1), rule("b", 3)),
		one(rule("a", 1), rule("b", 3), rule("ab", 1, 3)),
		// The same text may be written in several ways, and be written as the same cells by several paths.
		one(rule("a", 1), rule("a", 3), rule("aa", 1, 1), rule("aaaa", 1, 1, 1, 1), rule("aa", 3, 1)),
		one(rule("a", 1), between(62, 63, "a", 1), between(63, 31, "a", 1)),
		one(rule("", 1), rule("", 3, 3), rule("", 3)),
		several(2, 3, modes(0, 0, "a", 1), modes(0, 1, "a", 1), modes(1, 1, "b", 3), modes(1, 0, "a", 1)),
		// Cells may begin with those of another rule.
		one(rule("a", 1), rule("b", 1, 3)),
		one(rule("a", 1), rule("b", 1, 3), rule("c", 3, 3)),
		one(rule("a", 1, 1), rule("b", 3), rule("c", 3, 3, 1)),
		one(rule("a", 1), rule("ab", 1, 3), rule("c", 5), rule("bc", 3, 5)),
		// One text may be ahead of the other one until both are the same.
		several(4, 8, modes(0, 1, "ab", 1), modes(0, 2, "", 1), modes(1, 3, "c", 2), modes(2, 3, "abc", 2)),
		several(6, 32, modes(0, 1, "", 1), modes(0, 2, "ab", 1), modes(1, 3, "a", 2), modes(2, 4, "ca", 2), modes(3, 5, "bcad", 3), modes(4, 5, "d", 3)),
		several(6, 32, modes(0, 1, "a", 1), modes(0, 2, "", 1), modes(1, 3, "", 2), modes(2, 4, "abc", 2), modes(3, 5, "bcd", 3), modes(4, 5, "d", 3)),
		// A mode and the classes of the characters beside them may keep texts apart, a whole text as well as a part of one.
		numbers(),
		words(false),
		several(2, 1, sign, rule("a", 3), modes(1, 0, "A", 3)),
		several(2, 1, modes(0, 0, "a", 3), modes(0, 1, "A", 1), modes(1, 0, "B", 3)),
		one(between(1, 62, "a", 1), between(62, 63, "b", 1), between(62, 63, "c", 3)),
		// Of two texts that would be written alike one may never end.
		several(2, 1, modes(0, 0, "a", 1), modes(0, 1, "b", 1), modes(1, 1, "c", 3)),
		several(3, 1, modes(0, 0, "a", 1), modes(0, 1, "b", 1), modes(1, 2, "", 1), modes(2, 2, "a", 1)),
		one(rule("a", 1), between(63, 4, "b", 1)),
		one(between(63, 62, "a", 1), between(63, 1, "b", 1)),
		// No text may end at all.
		several(2, 2, rule("a", 1), rule("b", 1)),
		one(between(63, 62, "a", 1), between(63, 62, "b", 1)),
	}
}

// P5.1 (E1, E2): tables that are not ambiguous.
func TestAdmitted(t *testing.T) {
	for i, x := range admitted() {
		if c, e := Check(x); e != api.OK {
			t.Errorf("the table %d is refused: %v, %v", i, c, e)
		}
		checkCheck(t, x, api.Clash{}, api.OK)
	}
}

// invalid returns tables that are not valid, most of them for one cause, and ambiguous but for that.
func invalid() []api.Table {
	spoil := func(change func(x *api.Table)) api.Table {
		x := several(2, 3, rule("a", 1), rule("b", 1), modes(0, 1, "c", 3))
		change(&x)
		return x
	}
	return []api.Table{
		{},
		spoil(func(x *api.Table) { x.Modes = 0 }),
		spoil(func(x *api.Table) { x.Modes = 9 }),
		spoil(func(x *api.Table) { x.Modes = -1 }),
		spoil(func(x *api.Table) { x.Modes = 1 }),
		spoil(func(x *api.Table) { x.Accept = 0 }),
		spoil(func(x *api.Table) { x.Accept = 4 }),
		spoil(func(x *api.Table) { x.Rules = nil }),
		spoil(func(x *api.Table) { x.Rules = append(x.Rules, x.Rules[0]) }),
		spoil(func(x *api.Table) {
			for i := range 62 {
				x.Rules = append(x.Rules, rule("z", 9, api.Cell(1+i)))
			}
		}),
		spoil(func(x *api.Table) { x.Rules[0].Print = "\n" }),
		spoil(func(x *api.Table) { x.Rules[0].Print = "abcde" }),
		spoil(func(x *api.Table) { x.Rules[1].Print = " " }),
		spoil(func(x *api.Table) { x.Rules[2].Cells = nil }),
		spoil(func(x *api.Table) { x.Rules[2].Cells = cells(5, 1) }),
		spoil(func(x *api.Table) { x.Rules[2].Cells = cells(1, 63) }),
		spoil(func(x *api.Table) { x.Rules[2].Cells = cells(1, 64) }),
		spoil(func(x *api.Table) { x.Rules[2].Cells = cells(2, 0) }),
		spoil(func(x *api.Table) { x.Rules[2].Left = 0 }),
		spoil(func(x *api.Table) { x.Rules[2].Right = 64 }),
		spoil(func(x *api.Table) { x.Rules[2].From = -1 }),
		spoil(func(x *api.Table) { x.Rules[2].To = 2 }),
	}
}

// P5.1 (E1 to E3): tables that are not valid are refused, without a clash, and nothing proves that they are ambiguous.
func TestInvalid(t *testing.T) {
	for i, x := range invalid() {
		if table.Valid(x) {
			t.Errorf("the table %d is valid", i)
		}
		checkCheck(t, x, api.Clash{}, api.ErrRule)
		for _, c := range []api.Clash{{}, clash("a", "b", 1), clash("aa", "ab", 1, 1), clash("", "a")} {
			checkProves(t, x, c, false)
		}
	}
}

// P5.1 (E3): clashes that prove something, which may be others than those of E1, and such as do not.
func TestProves(t *testing.T) {
	ab, abc := one(rule("a", 1), rule("b", 3), rule("c", 1, 3)), one(rule("a", 1), rule("b", 1), rule("c", 3))
	for _, c := range []struct {
		x    api.Table
		c    api.Clash
		want bool
	}{
		{ab, clash("ab", "c", 1, 3), true},
		{ab, clash("c", "ab", 1, 3), true},
		{ab, clash("abab", "cab", 1, 3, 1, 3), true},
		{ab, clash("abab", "cc", 1, 3, 1, 3), true},
		{ab, clash("cab", "abc", 1, 3, 1, 3), true},
		{ab, clash("bca", "baba", 3, 1, 3, 1), true},
		{ab, clash("c", "c", 1, 3), false},
		{ab, clash("ab", "ab", 1, 3), false},
		{ab, clash("", "", 1, 3), false},
		{ab, clash("", "", 0), false},
		{ab, clash("", ""), false},
		{ab, clash("", "c"), false},
		{ab, clash("ab", "c"), false},
		{ab, clash("ab", "c", 1), false},
		{ab, clash("ab", "c", 3, 1), false},
		{ab, clash("ab", "c", 1, 3, 1), false},
		{ab, clash("ab", "c", 1, 3, 0), false},
		{ab, clash("ab", "c", 1, 67), false},
		{ab, clash("ab", "c", 129, 3), false},
		{ab, clash("ab", "c", 1, 63), false},
		{ab, clash("ab", "", 1, 3), false},
		{ab, clash("", "c", 1, 3), false},
		{ab, clash("ab", "cc", 1, 3), false},
		{ab, clash("ab", "a", 1, 3), false},
		{ab, clash("a", "c", 1, 3), false},
		{ab, clash("abb", "c", 1, 3), false},
		{ab, clash("c", "ac", 1, 3), false},
		{ab, clash("ab", "d", 1, 3), false},
		{ab, clash("ab", "c\x00", 1, 3), false},
		{ab, clash("ab", "\xe3", 1, 3), false},
		{abc, clash("a", "b", 1), true},
		{abc, clash("acb", "bcb", 1, 3, 1), true},
		{abc, clash("acb", "bcc", 1, 3, 1), false},
		// A path must lead to an end, and begin at the beginning.
		{words(false), clash("t", "the", 2), false},
		{words(true), clash("t", "the", 2), true},
		{words(true), clash("a t", "a the", 1, 0, 2), true},
		{words(true), clash("t a", "the a", 2, 0, 1), true},
		{words(true), clash("at", "athe", 1, 2), false},
		{words(true), clash("t ", "the ", 2, 0), false},
		{several(2, 2, modes(0, 0, "a", 1), modes(0, 0, "b", 1), modes(0, 1, "c", 3)), clash("a", "b", 1), false},
		{several(2, 2, modes(0, 0, "a", 1), modes(0, 0, "b", 1), modes(0, 1, "c", 3)), clash("ac", "bc", 1, 3), true},
		{several(2, 2, modes(0, 0, "a", 1), modes(1, 1, "b", 1), modes(0, 1, "c", 3)), clash("ac", "bc", 1, 3), false},
		// Rules that print nothing.
		{one(rule("a", 1), rule("", 1)), clash("", "a", 1), true},
		{one(rule("a", 1), rule("", 1)), clash("", "aaa", 1, 1, 1), true},
		{one(rule("a", 1), rule("", 1)), clash("", "aaaa", 1, 1, 1), false},
		{one(rule("a", 1), rule("", 1)), clash("", "", 1, 1, 1), false},
	} {
		checkProves(t, c.x, c.c, c.want)
	}
}

// P5.1 (E3), P5.2: clashes of E1 prove it, in either order, but not with other cells.
func TestProofs(t *testing.T) {
	for _, r := range clashes() {
		checkProves(t, r.x, r.c, true)
		checkProves(t, r.x, api.Clash{Cells: r.c.Cells, A: r.c.B, B: r.c.A}, true)
		checkProves(t, r.x, api.Clash{Cells: r.c.Cells, A: r.c.A, B: r.c.A}, false)
		checkProves(t, r.x, api.Clash{Cells: r.c.Cells[1:], A: r.c.A, B: r.c.B}, false)
		for _, x := range admitted() {
			checkProves(t, x, r.c, false)
		}
	}
}

// P5.1: each of the cells that rules may write counts, in its order.
func TestEveryCell(t *testing.T) {
	for c := api.Cell(1); c < api.Full; c++ {
		checkCheck(t, one(rule("a", c), rule("b", c)), clash("a", "b", c), api.ErrClash)
		checkCheck(t, one(rule("a", 62, c), rule("b", 62, c)), clash("a", "b", 62, c), api.ErrClash)
		if c > 1 {
			checkCheck(t, one(rule("a", c), rule("b", c), rule("c", c-1), rule("d", c-1)), clash("c", "d", c-1), api.ErrClash)
			checkCheck(t, one(rule("a", c), rule("b", c-1)), api.Clash{}, api.OK)
		}
	}
}

// many returns a table that begins with a forced chain of 32 steps, at each of which either of two characters is printed for the same cell.
func many() api.Table {
	pairs := []string{"ab", "AB", "12", "+-"}
	masks := []uint8{2, 4, 8, 32}
	x := several(8, 128)
	for i := range 32 {
		r := api.Rule{Cells: cells(1, 1), Left: 1, Right: 62, From: i / 4, To: min((i+1)/4, 7)}
		if i > 0 {
			r.Left = masks[(i-1)%4]
		}
		if i == 31 {
			r.Right = 1
		}
		for k := range 2 {
			r.Print = pairs[i%4][k : k+1]
			x.Rules = append(x.Rules, r)
		}
	}
	return x
}

// P5.1: very many texts that are written alike do not keep Check from finding the two least ones.
func TestManyTexts(t *testing.T) {
	text := strings.Repeat("aA1+", 8)
	want := clash(text, text[:31]+"-", cells(32, 1)...)
	checkCheck(t, many(), want, api.ErrClash)
	checkProves(t, many(), want, true)
	checkProves(t, many(), clash(strings.Repeat("bB2-", 8), text, cells(32, 1)...), true)
	checkProves(t, many(), clash(strings.Repeat("bB2-", 8), text+"a", cells(32, 1)...), false)
}

// cycles returns a table in which a sign leads into either of two cycles, of 11 and 12 cells, which print first and second in each round; both end at the same cells for the first time after 128 cells, where the second one prints end.
func cycles(first, second, end string) api.Table {
	return several(8, 128,
		modes(0, 2, "", 2), modes(1, 2, "", cells(4, 1)...), modes(2, 3, "", cells(4, 1)...), modes(3, 1, first, cells(3, 1)...), modes(1, 7, "", 3),
		modes(0, 5, "", 2), modes(4, 5, second, cells(4, 1)...), modes(5, 6, "", cells(4, 1)...), modes(6, 4, "", cells(4, 1)...), modes(4, 7, end, 3),
	)
}

// P5.1, P5.2: clashes that are found only after many cells, where paths have come back to the same positions again.
func TestCycles(t *testing.T) {
	long := func(n int) []api.Cell { return slices.Concat(cells(1, 2), cells(n, 1), cells(1, 3)) }
	a := func(n int) string { return strings.Repeat("a", n) }
	checkCheck(t, cycles("", "", ""), api.Clash{}, api.OK)
	checkCheck(t, cycles("", "", "a"), clash("", "a", long(128)...), api.ErrClash)
	checkCheck(t, cycles("a", "", "a"), clash("a", a(12), long(128)...), api.ErrClash)
	// The texts are equal there, and no longer when both end together again.
	checkCheck(t, cycles("a", "a", "aa"), clash(a(23), a(24), long(260)...), api.ErrClash)
	checkCheck(t, cycles("a", "a", "ab"), clash(a(12), a(11)+"b", long(128)...), api.ErrClash)
	checkCheck(t, cycles("a", "aa", ""), clash(a(12), a(20), long(128)...), api.ErrClash)
	// In this order, the second one is ahead all the time, and in the other one behind.
	checkCheck(t, cycles("", "abab", ""), clash("", strings.Repeat("abab", 10), long(128)...), api.ErrClash)
	checkCheck(t, cycles("abab", "", ""), clash("", strings.Repeat("abab", 12), long(128)...), api.ErrClash)
}

// The properties are about valid tables.
func TestTablesAreValid(t *testing.T) {
	all := append(admitted(), many(), cycles("a", "a", "aa"))
	for _, r := range clashes() {
		all = append(all, r.x)
	}
	for i, x := range all {
		if k, e := table.Check(x); e != api.OK {
			t.Errorf("the table %d is not valid: rule %d (%+v)", i, k, x)
		}
	}
}

// P5.1 (E4), P2: arguments are not modified, results do not depend on earlier calls, and a result may be changed by its owner.
func TestArgumentsStay(t *testing.T) {
	for i, r := range clashes() {
		x, l := r.x, slices.Clone(r.c.Cells)
		spare := rule("spare", 9)
		x.Rules = append(x.Rules, spare)[:len(x.Rules)]
		c := api.Clash{Cells: append(l, 77)[:len(l)], A: r.c.A, B: r.c.B}
		for range 2 {
			checkCheck(t, x, r.c, api.ErrClash)
			checkProves(t, x, c, true)
			found, _ := Check(x)
			clear(found.Cells)
		}
		if !reflect.DeepEqual(x, clashes()[i].x) || !reflect.DeepEqual(x.Rules[:len(x.Rules)+1][len(x.Rules)], spare) {
			t.Errorf("the table was changed: %+v", x)
		}
		if !slices.Equal(c.Cells[:len(l)+1], append(slices.Clone(r.c.Cells), 77)) {
			t.Errorf("the cells were changed: %v", c.Cells[:len(l)+1])
		}
	}
}

// P1: no function panics or fails to end, for any tables and clashes.
func TestNoPanic(t *testing.T) {
	wild := []api.Rule{
		{}, {Print: "a", Left: 63, Right: 63}, {Left: 255, Right: 255}, {Print: "b", Cells: []api.Cell{}, Left: 255, Right: 255},
		{Print: "\x00\xff", Cells: []api.Cell{1}, Left: 255, Right: 255, To: math.MaxInt},
		{Print: "a", Cells: []api.Cell{1}, Left: 255, Right: 255}, {Cells: []api.Cell{255}, Left: 255, Right: 255, To: -1},
		{Print: strings.Repeat("\x01", 1000), Cells: make([]api.Cell, 1000), Left: 255, Right: 255, From: math.MinInt},
	}
	all := append(append(invalid(), admitted()...), one(rule("a", 1), rule("aa", 1), rule("", 1)))
	for _, m := range []int{math.MinInt, -1, 0, 1, 8, 9, math.MaxInt} {
		for _, accept := range []uint8{0, 1, 2, 255} {
			all = append(all, several(m, accept), several(m, accept, wild...), several(m, accept, slices.Repeat(wild, 20)...))
		}
	}
	texts := []string{"", "a", "aa", "b", "\x00", "\xff", strings.Repeat("a", 1000), strings.Repeat("\x01", 1000)}
	for _, x := range all {
		Check(x)
		Admitted(x)
		for _, l := range [][]api.Cell{nil, {1}, {1, 255}, {63}, {0, 64}, cells(300, 1), cells(1000, 0)} {
			for _, a := range texts {
				Proves(x, clash(a, "a", l...))
				Proves(x, clash("b", a, l...))
			}
		}
	}
}
