package revise

import (
	"math"
	"math/rand"
	"reflect"
	"slices"
	"strings"
	"testing"

	"sixdot/api"
	"sixdot/automaton"
	"sixdot/internal/sample"
	"sixdot/table"
	"sixdot/translate"
)

// The tables of these tests, and what they are made of.
var (
	rule, modes, between, code      = sample.Rule, sample.Modes, sample.Between, sample.Code
	numbers, short, capitals, chain = sample.Numbers, sample.Short, sample.Capitals, sample.Chain
)

// far returns a table in which a rule that prints four bytes saves cells.
func far() api.Table {
	return code(1, 1, rule("a", 1, 1), rule("b", 1, 1), rule("c", 1, 1), rule("abca", 2))
}

// letters returns a table in which a letter "b" ahead of the end changes the cells of all letters ahead of it.
func letters() api.Table {
	return code(3, 6, modes(0, 1, "", 8), modes(0, 2, "", 9), modes(1, 1, "a", 1), modes(2, 2, "a", 1, 1), modes(2, 2, "b", 3))
}

// valid returns tables of several kinds.
func valid() []api.Table {
	return []api.Table{short(), numbers(), capitals(), chain(false), chain(true), far(), letters()}
}

// The tests below are about valid tables.
func TestTablesAreValid(t *testing.T) {
	for i, x := range valid() {
		if _, e := table.Check(x); e != api.OK {
			t.Errorf("table %d is not valid", i)
		}
	}
}

// checkStart checks the memo of a text.
func checkStart(t *testing.T, x api.Table, s string, least []int, costs [][]int) {
	t.Helper()
	m, e := Start(x, s)
	if !sameMemo(m, api.Memo{Text: s, Costs: costs, Least: least}) || e != api.OK {
		t.Errorf("Start(%q) = %v, %v, not %v, %v", s, m, e, costs, least)
	}
}

// P7.1 (G1, G2, G3): the chapter's examples.
func TestExamples(t *testing.T) {
	// The states are those at the start and behind a letter.
	all := [][]int{{0, 0}, {0, 0}, {0, 0}, {0, 0}}
	checkStart(t, short(), "aab", []int{2, 1, 1, 0}, all)
	m, _ := Start(short(), "aab")
	m, n, e := Change(short(), m, api.Splice{At: 0, Cut: 1, Put: "b"})
	if !sameMemo(m, api.Memo{Text: "bab", Costs: all, Least: []int{2, 1, 1, 0}}) || n != 1 || e != api.OK {
		t.Errorf("Change = %v, %d, %v", m, n, e)
	}
	w, e := Result(short(), m)
	if !slices.Equal(w.Cells, []api.Cell{3, 7}) || !slices.Equal(w.Path, []int{1, 2}) || e != api.OK {
		t.Errorf("Result = %v, %v", w, e)
	}
}

// P7.1 (G1): columns that can be worked out by hand: states from which a suffix is impossible, from which it needs more cells than from others, and suffixes that are impossible from all states.
func TestColumns(t *testing.T) {
	// The states are those of mode 0 at the start, behind a letter and behind a space: 0, 1, 5; of mode 1 behind a digit: 4; and of mode 1 ahead of a digit: 2, 3, 6.
	x := numbers()
	checkStart(t, x, "", []int{0}, [][]int{{0, 0, -1, -1, 0, 0, -1}})
	checkStart(t, x, "1 a", []int{3, 2, 1, 0}, [][]int{
		{1, 1, 0, 0, 0, 1, 0},
		{-1, -1, -1, -1, 0, -1, -1},
		{0, 0, -1, -1, -1, 0, -1},
		{0, 0, -1, -1, 0, 0, -1},
	})
	checkStart(t, x, "a2", []int{-1, -1, 0}, [][]int{
		{-1, -1, -1, -1, -1, -1, -1},
		{-1, -1, -1, -1, -1, -1, -1},
		{0, 0, -1, -1, 0, 0, -1},
	})
	checkStart(t, x, "2a", []int{-1, 1, 0}, [][]int{
		{-1, -1, -1, -1, -1, -1, -1},
		{0, 0, -1, -1, -1, 0, -1},
		{0, 0, -1, -1, 0, 0, -1},
	})
	// The signs between the modes cost a cell each, in whatever order the rules are; mode 4 is the last one that prints.
	for _, back := range []bool{false, true} {
		x := chain(back)
		want := map[int][]int{0: {7, 6, 5, 4, 3, 2, 1, 0}, 1: {4, 3, 2, 1, 0, -1, -1, -1}}
		m, e := Start(x, "a")
		if e != api.OK || !slices.Equal(m.Least, []int{4, 0}) {
			t.Errorf("Start = %v, %v", m, e)
		}
		for k, s := range automaton.States(x) {
			if m.Costs[0][k] != want[1][s.Mode] || m.Costs[1][k] != want[0][s.Mode] {
				t.Errorf("the suffix costs from %v are %d and %d", s, m.Costs[0][k], m.Costs[1][k])
			}
		}
	}
	// No state of a table without an accepting mode that can be reached leads to an end.
	none := code(2, 2, rule("a", 1))
	checkStart(t, none, "a", []int{-1, -1}, [][]int{{-1, -1}, {-1, -1}})
}

// P7.1 (G1): a string that is not a text has no memo.
func TestStartRefused(t *testing.T) {
	for _, s := range []string{"\n", "aab\n", "a\x7fb", "\xff", "a\x80"} {
		for _, x := range valid() {
			if m, e := Start(x, s); !reflect.DeepEqual(m, api.Memo{}) || e != api.ErrText {
				t.Errorf("Start(%q) = %v, %v", s, m, e)
			}
		}
	}
	// Each byte by itself is a text, or not.
	for b := range 256 {
		s := string([]byte{byte(b)})
		_, want := table.Text(s)
		if m, e := Start(short(), s); e != want || (e == api.OK) != (len(m.Costs) == 2) {
			t.Errorf("Start(%q) = %v, %v", s, m, e)
		}
	}
}

// P7.1 (G2): a splice that does not fit is refused, and then one that makes no text; others are not.
func TestSplices(t *testing.T) {
	const most = math.MaxInt
	x := short()
	m, _ := Start(x, "aab")
	for _, c := range []struct {
		at, cut int
		put     string
		want    api.Errno
	}{
		{-1, 0, "", api.ErrArg}, {-1, 1, "a", api.ErrArg}, {-1, 2, "", api.ErrArg}, {0, -1, "a", api.ErrArg}, {3, -1, "", api.ErrArg}, {2, -1, "", api.ErrArg}, {-1, -1, "", api.ErrArg},
		{4, 0, "", api.ErrArg}, {4, 0, "a", api.ErrArg}, {4, -1, "", api.ErrArg}, {0, 4, "", api.ErrArg}, {3, 1, "", api.ErrArg}, {2, 2, "a", api.ErrArg},
		{most, 0, "", api.ErrArg}, {0, most, "", api.ErrArg}, {1, most, "", api.ErrArg}, {most, most, "", api.ErrArg}, {most, 1, "", api.ErrArg}, {math.MinInt, 0, "", api.ErrArg}, {0, math.MinInt, "", api.ErrArg}, {math.MinInt, math.MinInt, "", api.ErrArg}, {most, math.MinInt, "", api.ErrArg}, {3, math.MinInt, "", api.ErrArg}, {math.MinInt, most, "", api.ErrArg},
		// What does not fit is refused ahead of what is not a text.
		{4, 0, "\n", api.ErrArg}, {-1, 0, "\x80", api.ErrArg}, {0, 4, "\n", api.ErrArg},
		{0, 0, "\n", api.ErrText}, {3, 0, "\x80", api.ErrText}, {1, 1, "a\x7f", api.ErrText}, {0, 3, "\xff", api.ErrText},
		{0, 0, "", api.OK}, {3, 0, "", api.OK}, {0, 3, "", api.OK}, {1, 2, "", api.OK}, {3, 0, "b ", api.OK}, {0, 3, "\xe1", api.OK}, {2, 1, "#", api.OK},
	} {
		splice := api.Splice{At: c.at, Cut: c.cut, Put: c.put}
		got, n, e := Change(x, m, splice)
		if e != c.want {
			t.Errorf("Change of %+v: %v, not %v", splice, e, c.want)
		}
		if e != api.OK && (!reflect.DeepEqual(got, api.Memo{}) || n != 0) {
			t.Errorf("Change of %+v = %v, %d, %v", splice, got, n, e)
		}
		if e == api.OK && (!sameMemo(got, scratch(x, whole("aab", splice))) || n > c.at+len(c.put)) {
			t.Errorf("Change of %+v = %v, %d", splice, got, n)
		}
	}
	// A memo of the empty text, and back to it.
	m, _ = Start(x, "")
	m, n, e := Change(x, m, api.Splice{Put: "ab"})
	if !sameMemo(m, scratch(x, "ab")) || n != 2 || e != api.OK {
		t.Errorf("Change = %v, %d, %v", m, n, e)
	}
	m, n, e = Change(x, m, api.Splice{Cut: 2})
	if !sameMemo(m, scratch(x, "")) || n != 0 || e != api.OK {
		t.Errorf("Change = %v, %d, %v", m, n, e)
	}
}

// P7.1 (G2), P7.4: where the recomputing stops, in examples that can be worked out by hand.
func TestWork(t *testing.T) {
	a := strings.Repeat("a", 10)
	for _, c := range []struct {
		x     api.Table
		s     string
		c     api.Splice
		count int
	}{
		// Nothing is changed: three columns before the place are looked at, or all if there are fewer.
		{short(), a, api.Splice{At: 10}, 3},
		{short(), a, api.Splice{At: 4}, 3},
		{short(), a, api.Splice{At: 3}, 3},
		{short(), a, api.Splice{At: 2}, 2},
		{short(), a, api.Splice{At: 0}, 0},
		// A byte is replaced by itself: its column and those of the three places before it.
		{short(), a, api.Splice{At: 6, Cut: 1, Put: "a"}, 4},
		{short(), a, api.Splice{At: 3, Cut: 1, Put: "a"}, 4},
		{short(), a, api.Splice{At: 2, Cut: 1, Put: "a"}, 3},
		{short(), a, api.Splice{At: 6, Cut: 2, Put: "aa"}, 5},
		// At the places 3 to 6, a cell less is needed for each "a" that is cut, and more for each one that is put.
		{short(), a, api.Splice{At: 6, Cut: 1}, 3},
		{short(), a, api.Splice{At: 6, Cut: 4}, 3},
		{short(), a, api.Splice{At: 6, Put: "aaa"}, 6},
		{short(), a, api.Splice{At: 10, Put: "a"}, 4},
		{short(), a, api.Splice{At: 0, Put: "aaa"}, 3},
		{short(), a, api.Splice{At: 0, Cut: 10}, 0},
		// The "b" is written with the "a" before it, whose place needs a cell less; so do those before it, as the place 6 does not.
		{short(), a, api.Splice{At: 6, Cut: 1, Put: "b"}, 5},
		{short(), a, api.Splice{At: 6, Put: "b"}, 5},
		// What stands there cannot be written any more, and nothing before it can be.
		{short(), a, api.Splice{At: 6, Cut: 1, Put: "c"}, 7},
		{short(), "aaaaaaaaac", api.Splice{At: 6, Cut: 1, Put: "c"}, 4},
		{short(), "aaaaaaaaac", api.Splice{At: 6, Cut: 1}, 3},
		{short(), "aaaaaaaaac", api.Splice{At: 9, Cut: 1, Put: "a"}, 10},
		// From the place 6 on, "abca" needs seven cells less than "abaa", but not from those behind it: only the four columns from the place 3 on agree.
		{far(), "aaaaaaabaa", api.Splice{At: 8, Cut: 1, Put: "c"}, 6},
		// A letter at the end changes what is best from the start on.
		{letters(), a, api.Splice{At: 9, Cut: 1, Put: "b"}, 10},
		{letters(), a + "b", api.Splice{At: 5, Cut: 1}, 3},
	} {
		m, _ := Start(c.x, c.s)
		got, n, e := Change(c.x, m, c.c)
		if !sameMemo(got, scratch(c.x, whole(c.s, c.c))) || n != c.count || e != api.OK {
			t.Errorf("Change(%q, %+v) = %v, %d, %v, not %d columns", c.s, c.c, got, n, e, c.count)
		}
	}
}

// P7.1 (G3), P7.3: the result is the first writing of the fewest ones, also where a text cannot be written.
func TestResults(t *testing.T) {
	two := code(1, 1, rule("a", 1), rule("b", 3), rule("ab", 1, 3), rule("abc", 5), rule("a", 2))
	for _, c := range []struct {
		x    api.Table
		s    string
		path []int
		want api.Errno
	}{
		{short(), "", nil, api.OK}, {short(), "abab", []int{2, 2}, api.OK}, {short(), "ba", []int{1, 0}, api.OK},
		{numbers(), "1 a", []int{1, 2, 3, 0}, api.OK}, {numbers(), "a1", []int{0, 1, 2}, api.OK},
		{two, "ab", []int{0, 1}, api.OK}, {two, "abc", []int{3}, api.OK}, {two, "aabc", []int{0, 3}, api.OK},
		{capitals(), "A A", []int{2, 6, 2}, api.OK}, {capitals(), "AAA", []int{1, 3, 3, 3}, api.OK},
		{chain(false), "aa", []int{0, 1, 2, 3, 7, 7, 4, 5, 6}, api.OK}, {chain(true), "", []int{6, 5, 4, 3, 2, 1, 0}, api.OK},
		{short(), "c", nil, api.ErrSign}, {short(), "abc", nil, api.ErrSign}, {short(), "cab", nil, api.ErrSign}, {numbers(), "1a", nil, api.ErrSign}, {numbers(), "a ", nil, api.ErrSign}, {code(2, 2, rule("a", 1)), "", nil, api.ErrSign},
		// A suffix is written from another state, but not from the first one.
		{numbers(), " a", nil, api.ErrSign},
	} {
		m, _ := Start(c.x, c.s)
		w, e := Result(c.x, m)
		if !slices.Equal(w.Path, c.path) || !slices.Equal(w.Cells, automaton.Run(c.x, c.path).Cells) || e != c.want {
			t.Errorf("Result(%q) = %v, %v, not the path %v, %v", c.s, w, e, c.path, c.want)
		}
		checkResult(t, c.x, m)
	}
}

// P7.2, P7.3, P7.4: long texts, of the most bytes that clean texts have and more, with changes at their ends and in the middle.
func TestLongTexts(t *testing.T) {
	random := rand.New(rand.NewSource(20))
	for _, x := range append(valid(), large(21, 8)...) {
		long := printed(random, x, 1000)
		for _, s := range []string{long, long[:min(len(long), api.MaxText)]} {
			m, _ := Start(x, s)
			checkResult(t, x, m)
			for _, c := range []api.Splice{{At: 0, Put: "a"}, {At: len(s) / 2, Put: "a"}, {At: len(s) / 2}, {At: len(s), Put: "a"}, {At: 0, Cut: len(s) / 2}, {At: len(s) / 3, Cut: len(s) / 3, Put: s}} {
				got, n, e := Change(x, m, c)
				want, _ := Start(x, whole(s, c))
				if !sameMemo(got, want) || n > c.At+len(c.Put) || e != api.OK {
					t.Errorf("Change(%q, %+v) is not the memo from scratch, or recomputes %d columns (table %+v)", s, c, n, x)
				}
				checkResult(t, x, got)
			}
		}
	}
	// A byte of a long text is changed with the work of a few columns.
	m, _ := Start(short(), strings.Repeat("ab", 20000))
	if got, n, e := Change(short(), m, api.Splice{At: 30000, Cut: 1, Put: "b"}); n != 4 || e != api.OK || got.Least[0] != 20001 {
		t.Errorf("Change recomputes %d columns, %v, and the text needs %d cells", n, e, got.Least[0])
	}
}

// roomy returns a copy of a memo with room behind its slices that is filled with a mark, and a function that reports whether all of that is as it was.
func roomy(m api.Memo) (api.Memo, func() bool) {
	mark := []int{-77}
	l := copied(m)
	least := append(slices.Clone(l.Least), slices.Repeat(mark, 50)...)
	costs := append(slices.Clone(l.Costs), slices.Repeat([][]int{mark}, 50)...)
	l.Least, l.Costs = least[:len(l.Least)], costs[:len(l.Costs)]
	return l, func() bool {
		tail := slices.ContainsFunc(least[len(l.Least):], func(n int) bool { return n != -77 })
		columns := slices.ContainsFunc(costs[len(l.Costs):], func(c []int) bool { return !slices.Equal(c, []int{-77}) })
		return !tail && !columns && sameMemo(l, m)
	}
}

// P2, P7.5: a memo that is changed stays as it is, with all the memory that is behind it, and gives the same again.
func TestMemoStays(t *testing.T) {
	random := rand.New(rand.NewSource(30))
	for i, x := range append(small(31, 60), large(32, 10)...) {
		m, _ := Start(x, printed(random, x, 3+i%9)+"ab")
		l, same := roomy(m)
		for range 10 {
			c := randomSplice(random, m.Text, many)
			first, n, e := Change(x, l, c)
			kept := copied(first)
			w, f := Result(x, l)
			again, k, g := Change(x, m, c)
			if !same() || !sameMemo(first, again) || n != k || e != g {
				t.Fatalf("Change(%v, %+v) = %v, %d, %v, and then %v, %d, %v (table %+v)", m, c, first, n, e, again, k, g, x)
			}
			// Neither does another change of the same memo reach what the first one gave.
			Change(x, l, api.Splice{At: min(c.At, 1), Put: "b1b1"})
			Change(x, first, api.Splice{Put: "a"})
			if v, g := Result(x, m); !sameMemo(first, kept) || !same() || !reflect.DeepEqual(v, w) || f != g {
				t.Fatalf("%v became %v (table %+v)", kept, first, x)
			}
		}
	}
}

// P2: the table stays as it is, and results are the same again.
func TestArgumentsStay(t *testing.T) {
	for _, x := range valid() {
		before := table.Format(x)
		for _, s := range []string{"", "a", "aab", "1 a", "AAa", "c"} {
			m, _ := Start(x, s)
			again, _ := Start(x, s)
			if !sameMemo(m, again) {
				t.Errorf("Start(%q) = %v, and then %v", s, m, again)
			}
			Change(x, m, api.Splice{At: len(s), Put: "ab"})
			Result(x, m)
			if table.Format(x) != before {
				t.Fatalf("the table became %+v", x)
			}
		}
	}
}

// invalid returns tables that are not valid, each for another reason.
func invalid() []api.Table {
	all := []api.Table{{}, code(0, 0), code(0, 1, rule("a", 1)), code(9, 1, rule("a", 1)), code(1, 0, rule("a", 1)), code(-1, 1, rule("a", 1)), code(1, 255, rule("a", 1)), code(math.MaxInt, 1, rule("a", 1))}
	for _, r := range []api.Rule{
		rule("a"), rule(""), rule("aaaaa", 1), rule("\n", 1), rule("a", 63), rule("a", 0), rule(" ", 1), rule("a", 1, 1, 1, 1, 1),
		modes(0, 5, "a", 1), modes(0, -1, "a", 1), modes(5, 0, "a", 1), modes(-1, 0, "", 1), modes(0, math.MaxInt, "", 1), modes(0, math.MinInt, "a", 1),
		between(0, 63, rule("a", 1)), between(63, 0, rule("a", 1)), between(255, 255, rule("a", 1)), between(64, 128, rule("", 1)),
	} {
		all = append(all, code(1, 1, r), code(2, 3, rule("a", 1), r), code(2, 3, r, r, modes(1, 0, "")))
	}
	return all
}

// spoilt returns memos that are those of no text with the table, and some that are.
func spoilt(x api.Table) []api.Memo {
	all := []api.Memo{{}, {Text: "a"}, {Costs: [][]int{{0}}}, {Least: []int{0}}, {Costs: [][]int{nil}, Least: []int{0}}, {Text: "\n\n", Costs: make([][]int, 3), Least: make([]int, 3)}}
	for _, s := range []string{"", "a", "aab", "1 a", "c"} {
		m, _ := Start(x, s)
		for _, n := range []int{0, 1, -1, -2, 9, math.MaxInt, math.MinInt, math.MaxInt - 4, math.MaxInt - 3} {
			for i := range m.Least {
				least, costs, all0 := copied(m), copied(m), copied(m)
				least.Least[i] = n
				for k := range costs.Costs[i] {
					costs.Costs[i][k] = n + k%2
					all0.Costs[i][k] = 0
				}
				all = append(all, least, costs, all0)
			}
		}
		for i := range m.Least {
			fewer, more, none, text := copied(m), copied(m), copied(m), copied(m)
			fewer.Costs[i] = fewer.Costs[i][min(1, len(fewer.Costs[i])):]
			more.Costs[i] = append(more.Costs[i], 0)
			none.Costs = none.Costs[:i]
			text.Least = text.Least[:i]
			all = append(all, m, fewer, more, none, text)
		}
		m.Text += "a\n"
		all = append(all, m)
	}
	return all
}

// P1: no function panics, whatever the table, the memo and the splice are; with an error, the other results are zero.
func TestNoPanic(t *testing.T) {
	splices := []api.Splice{{}, {At: 1}, {At: -1}, {Cut: 1, Put: "b"}, {Put: "ab1"}, {At: 3, Put: "\n"}, {At: math.MaxInt, Cut: math.MaxInt}, {At: 2, Cut: 1}, {At: 3, Put: "a"}}
	for _, x := range append(invalid(), valid()...) {
		for _, s := range []string{"", "a", "aab", "\n", "1 a", strings.Repeat("a", 500)} {
			if m, e := Start(x, s); e != api.OK && !reflect.DeepEqual(m, api.Memo{}) {
				t.Errorf("Start(%q) = %v, %v (table %+v)", s, m, e, x)
			}
		}
		memos := spoilt(x)
		if !table.Valid(x) {
			memos = append(memos, spoilt(short())...)
		}
		for _, m := range memos {
			if w, e := Result(x, m); e != api.OK && (w.Cells != nil || w.Path != nil) {
				t.Errorf("Result(%v) = %v, %v (table %+v)", m, w, e, x)
			}
			for _, c := range splices {
				if l, n, e := Change(x, m, c); e != api.OK && (n != 0 || !reflect.DeepEqual(l, api.Memo{})) {
					t.Errorf("Change(%v, %+v) = %v, %d, %v (table %+v)", m, c, l, n, e, x)
				}
			}
		}
	}
}

// P7.3: the cost of the first place and the first state is that of layer 6.
func TestCosts(t *testing.T) {
	random := rand.New(rand.NewSource(40))
	for i, x := range append(small(41, 300), large(42, 60)...) {
		s := printed(random, x, i%30)
		m, _ := Start(x, s)
		got := m.Costs[0][0]
		if got != -1 {
			got += m.Least[0]
		}
		if want := translate.Cost(x, s); got != want {
			t.Errorf("the cost of %q is %d, not %d (table %+v)", s, got, want, x)
		}
	}
}
