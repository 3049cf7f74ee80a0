package translate

import (
	"math"
	"reflect"
	"slices"
	"strings"
	"testing"

	"sixdot/api"
	"sixdot/automaton"
	"sixdot/internal/sample"
	"sixdot/table"
)

// The tables of these tests, and what they are made of.
var (
	rule, modes, between, code      = sample.Rule, sample.Modes, sample.Between, sample.Code
	numbers, short, capitals, chain = sample.Numbers, sample.Short, sample.Capitals, sample.Chain
)

// cells returns n equal cells.
func cells(n int, c api.Cell) []api.Cell {
	return slices.Repeat([]api.Cell{c}, n)
}

// checkRefused checks that a text is refused at a place.
func checkRefused(t *testing.T, x api.Table, s string, at int, want api.Errno) {
	t.Helper()
	w, n, e := Write(x, s)
	if w.Cells != nil || w.Path != nil || n != at || e != want {
		t.Errorf("Write(%q) = %v, %d, %v, not %d, %v (table %+v)", s, w, n, e, at, want, x)
	}
	if n := Cost(x, s); n != -1 {
		t.Errorf("Cost(%q) = %d (table %+v)", s, n, x)
	}
}

// checkWriting checks that a text is written by a path, and what follows from it.
func checkWriting(t *testing.T, x api.Table, s string, path ...int) {
	t.Helper()
	run := automaton.Run(x, path)
	if !run.Ok || run.Text != s {
		t.Errorf("%v is not a path of %q (table %+v)", path, s, x)
	}
	w, n, e := Write(x, s)
	if !slices.Equal(w.Path, path) || !slices.Equal(w.Cells, run.Cells) || n != len(s) || e != api.OK {
		t.Errorf("Write(%q) = %v, %d, %v, not the path %v with the cells %v (table %+v)", s, w, n, e, path, run.Cells, x)
	}
	if n := Cost(x, s); n != len(run.Cells) {
		t.Errorf("Cost(%q) = %d, not %d (table %+v)", s, n, len(run.Cells), x)
	}
	if !Writes(x, w, s) {
		t.Errorf("Writes(%v, %q) = false (table %+v)", w, s, x)
	}
}

// P6.1 (F1, F2): the chapter's examples.
func TestExamples(t *testing.T) {
	w, n, e := Write(numbers(), "1 a")
	if !slices.Equal(w.Cells, []api.Cell{60, 1, 0, 1}) || !slices.Equal(w.Path, []int{1, 2, 3, 0}) || n != 3 || e != api.OK {
		t.Errorf("Write = %v, %d, %v", w, n, e)
	}
	w, n, e = Write(short(), "abab")
	if !slices.Equal(w.Cells, []api.Cell{7, 7}) || !slices.Equal(w.Path, []int{2, 2}) || n != 4 || e != api.OK {
		t.Errorf("Write = %v, %d, %v", w, n, e)
	}
	w, n, e = Write(short(), "ba")
	if !slices.Equal(w.Cells, []api.Cell{3, 1}) || !slices.Equal(w.Path, []int{1, 0}) || n != 2 || e != api.OK {
		t.Errorf("Write = %v, %d, %v", w, n, e)
	}
	checkRefused(t, numbers(), "1a", 1, api.ErrSign)
	checkRefused(t, numbers(), "a2", 1, api.ErrSign)
	checkRefused(t, numbers(), "a\n", 1, api.ErrText)
	for _, x := range []api.Table{numbers(), short()} {
		checkWriting(t, x, "")
		if n := Cost(x, ""); n != 0 {
			t.Errorf("Cost of no characters = %d", n)
		}
	}
}

// P6.1 (F1), P6.2: the fewest cells, which need not be those of the first rules, of the longest ones or of the fewest ones; and the least path of these.
func TestFewest(t *testing.T) {
	for _, c := range []struct {
		x    api.Table
		s    string
		path []int
	}{
		// The rule that prints most may leave a rest that needs more cells.
		{code(1, 1, rule("abc", 1), rule("a", 2), rule("bcd", 3), rule("d", 4, 4)), "abcd", []int{1, 2}},
		{code(1, 1, rule("abc", 1), rule("a", 2), rule("bcd", 3), rule("d", 4)), "abcd", []int{0, 3}},
		{code(1, 1, rule("ab", 1, 1, 1), rule("a", 2), rule("b", 3)), "ab", []int{1, 2}},
		{code(1, 1, rule("aaaa", 1, 1, 1, 1), rule("a", 2), rule("aa", 3)), "aaaaa", []int{1, 2, 2}},
		{code(1, 1, rule("aaaa", 1, 1), rule("a", 2), rule("aa", 3)), "aaaaa", []int{0, 1}},
		// Of the same cells the least path, at the first rule that differs, whatever comes later.
		{code(1, 1, rule("a", 1), rule("b", 3), rule("ab", 1, 3)), "ab", []int{0, 1}},
		{code(1, 1, rule("ab", 1, 3), rule("a", 1), rule("b", 3)), "ab", []int{0}},
		{code(1, 1, rule("a", 1), rule("ab", 1, 3), rule("b", 3)), "ab", []int{0, 2}},
		{code(1, 1, rule("b", 3), rule("ab", 1, 3), rule("a", 1)), "ab", []int{1}},
		{code(1, 1, rule("a", 2), rule("a", 1)), "aa", []int{0, 0}},
		{code(1, 1, rule("a", 2, 1), rule("a", 2), rule("a", 1)), "aa", []int{1, 1}},
		{code(1, 1, rule("aa", 1), rule("aaa", 2), rule("a", 3)), "aaaa", []int{0, 0}},
		{code(1, 1, rule("aaa", 1), rule("aa", 2), rule("a", 3)), "aaaa", []int{0, 2}},
		{code(1, 1, rule("a", 3), rule("aaa", 1), rule("aa", 2)), "aaaa", []int{0, 1}},
		{code(1, 1, rule("a", 3), rule("bc", 1), rule("ab", 4), rule("c", 3)), "abc", []int{0, 1}},
		{code(1, 1, rule("ab", 4), rule("bc", 1), rule("a", 3), rule("c", 3)), "abc", []int{0, 3}},
		// A sign that stands for more than one character pays only if there are enough of them.
		{capitals(), "A", []int{2}},
		{capitals(), "AA", []int{1, 3, 3}},
		{capitals(), "AAA", []int{1, 3, 3, 3}},
		{capitals(), "AAa", []int{2, 2, 0}},
		{capitals(), "AAAa", []int{2, 2, 2, 0}},
		{capitals(), "AAAAa", []int{1, 3, 3, 3, 3, 4, 0}},
		{capitals(), "AA a", []int{1, 3, 3, 5, 0}},
		{capitals(), "aAA AA", []int{0, 1, 3, 3, 5, 1, 3, 3}},
		// A mode that costs more now may cost less in all.
		{code(2, 2, modes(0, 0, "a", 1), modes(0, 1, "a", 1, 1), modes(1, 1, "b", 1), modes(0, 1, "b", 1, 1, 1)), "ab", []int{1, 2}},
		{code(2, 2, modes(0, 0, "a", 1), modes(0, 1, "a", 1, 1), modes(1, 1, "b", 1), modes(0, 1, "b", 1, 1)), "ab", []int{0, 3}},
		// Emphasised characters are others than plain ones.
		{code(1, 1, rule("a", 1), rule("\xe1", 3), rule("\xa0", 0), rule(" ", 0)), "a\xe1\xa0a ", []int{0, 1, 2, 0, 3}},
		{code(1, 1, rule("~", 1), rule("\xfe!", 3), rule("\xfe", 4, 5)), "~\xfe!\xfe", []int{0, 1, 2}},
	} {
		checkWriting(t, c.x, c.s, c.path...)
	}
}

// P6.1 (F1), P6.2: rules that print nothing stand ahead of characters, between them and behind them, one or several, and cost their cells.
func TestSilentRules(t *testing.T) {
	checkWriting(t, chain(false), "", 0, 1, 2, 3, 4, 5, 6)
	checkWriting(t, chain(false), "aa", 0, 1, 2, 3, 7, 7, 4, 5, 6)
	checkWriting(t, chain(true), "", 6, 5, 4, 3, 2, 1, 0)
	checkWriting(t, chain(true), "aa", 6, 5, 4, 3, 7, 7, 2, 1, 0)
	checkRefused(t, chain(true), "ab", 1, api.ErrSign)
	// A way round of several ones may cost less than a single one, or the same.
	long := modes(0, 2, "", 1, 1, 1)
	checkWriting(t, code(3, 4, long, modes(0, 1, "", 1), modes(1, 2, "", 1), modes(2, 2, "a", 1)), "a", 1, 2, 3)
	checkWriting(t, code(3, 4, long, modes(0, 1, "", 1, 1), modes(1, 2, "", 1), modes(2, 2, "a", 1)), "a", 0, 3)
	checkWriting(t, code(3, 4, modes(0, 1, "", 1, 1), long, modes(1, 2, "", 1), modes(2, 2, "a", 1)), "a", 0, 2, 3)
	checkWriting(t, code(3, 4, modes(2, 2, "a", 1), modes(1, 2, "", 1), modes(0, 1, "", 1), long), "a", 2, 1, 0)
	// They may lead to and fro, or back to the same mode, which never pays.
	checkWriting(t, code(2, 1, modes(0, 1, "", 1), modes(1, 0, "", 1), modes(1, 1, "a", 3), modes(0, 0, "", 5)), "a", 0, 2, 1)
	checkWriting(t, code(1, 1, rule("", 1), rule("a", 1)), "a", 1)
	checkWriting(t, code(1, 1, rule("", 1), rule("a", 1)), "")
	// One may be needed because others must not stand beside each other.
	checkWriting(t, code(2, 1, between(1, 63, rule("a", 1)), rule("b", 3), modes(0, 1, "", 5), modes(1, 0, "a", 1)), "aa", 0, 2, 3)
}

// P6.1 (F1), P6.2: the characters beside a rule count, beyond those that print nothing.
func TestConditions(t *testing.T) {
	// A whole word between edges and spaces costs less, the same cell is a letter elsewhere.
	word := code(1, 1, between(17, 17, rule("the", 2)), rule("t", 2), rule("h", 4), rule("e", 8), rule(" ", 0))
	checkWriting(t, word, "the", 0)
	checkWriting(t, word, "the the", 0, 4, 0)
	checkWriting(t, word, "tthe", 1, 1, 2, 3)
	checkWriting(t, word, "thee the", 1, 2, 3, 3, 4, 0)
	checkRefused(t, word, "the\xa0the", 3, api.ErrSign)
	// What follows may be a space only, or the edge only.
	ending := code(1, 1, between(63, 17, rule("ed", 2)), between(63, 1, rule("d", 5)), between(2, 62, rule("e", 4, 4)), rule("d", 1, 1), rule("d", 1, 1, 1), rule("a", 1), rule(" ", 0))
	checkWriting(t, ending, "aed", 5, 0)
	checkWriting(t, ending, "aed a", 5, 0, 6, 5)
	checkWriting(t, ending, "aeda", 5, 2, 3, 5)
	checkWriting(t, ending, "ad", 5, 1)
	checkWriting(t, ending, "add", 5, 3, 1)
	checkRefused(t, ending, "a ea", 2, api.ErrSign)
	checkRefused(t, ending, "ae", 1, api.ErrSign)
	// What lies ahead of a rule that prints several characters is not one of these, and what lies behind it is the last one.
	left := code(1, 1, rule("a", 1), between(1, 63, rule("1a", 3)), between(2, 63, rule("A", 5)), between(8, 63, rule("B", 5)))
	checkWriting(t, left, "1aA", 1, 2)
	checkRefused(t, left, "1aB", 2, api.ErrSign)
	checkRefused(t, left, "a1aA", 1, api.ErrSign)
	checkRefused(t, left, "1aAA", 3, api.ErrSign)
	// A sign narrows what may follow, and a further one does so, too, until a character is printed.
	sign := code(1, 1, between(63, 12, rule("", 1)), between(63, 10, rule("", 3)), between(63, 4, rule("", 5)), between(1, 63, rule("a", 1)), rule("A", 1), rule("1", 1))
	checkWriting(t, sign, "aA1", 3, 4, 5)
	for _, c := range []struct {
		path []int
		want bool
	}{{[]int{0, 4, 5}, true}, {[]int{4, 0, 5}, true}, {[]int{0, 1, 5}, false}, {[]int{4, 0, 1, 5}, true}, {[]int{4, 0, 1, 2, 5}, false}, {[]int{1, 4, 5}, false}, {[]int{4, 5, 0}, false}} {
		run := automaton.Run(sign, c.path)
		if got := Writes(sign, api.Writing{Cells: run.Cells, Path: c.path}, "A1"); got != c.want {
			t.Errorf("Writes with the path %v = %v", c.path, got)
		}
	}
	// A sign that is needed for the mode must leave the character that comes.
	must := code(2, 2, between(63, 8, modes(0, 1, "", 1)), between(63, 4, modes(0, 1, "", 3, 3)), modes(1, 1, "1", 5), modes(1, 1, "A", 5), between(4, 1, modes(0, 1, "", 9)), modes(0, 0, "A", 7, 7))
	checkWriting(t, must, "1", 0, 2)
	checkWriting(t, must, "A", 1, 3)
	checkWriting(t, must, "A1", 1, 3, 2)
	checkWriting(t, must, "AA", 1, 3, 3)
	checkRefused(t, must, "", 0, api.ErrSign)
}

// P6.1 (F1), P6.4: the place is the greatest one that is reached, be it on the way to a dead end or not.
func TestRefused(t *testing.T) {
	for _, c := range []struct {
		x  api.Table
		s  string
		at int
	}{
		{short(), "c", 0},
		{short(), "abc", 2},
		{short(), "cab", 0},
		{short(), "aAb", 1},
		{short(), "ab ", 2},
		{short(), "a\xe1", 1},
		{numbers(), " ", 0},
		{numbers(), "a1 a1a", 5},
		// A longer rule comes farther, or ends before the sign and cannot be left.
		{code(1, 1, rule("abc", 1), rule("a", 3)), "abcd", 3},
		{code(1, 1, rule("abc", 1), rule("a", 3), rule("bcd", 5)), "abcdb", 4},
		{code(1, 1, rule("abcd", 1), rule("ab", 3)), "abc", 2},
		{code(1, 1, rule("abcd", 1)), "abc", 0},
		{code(1, 1, rule("ab", 1)), "aba", 2},
		{code(1, 1, rule("b", 1)), "ab", 0},
		// The character that comes must be allowed there.
		{code(1, 1, between(63, 1, rule("a", 1))), "aa", 0},
		{code(1, 1, between(63, 2, rule("a", 1))), "aa", 1},
		{code(1, 1, between(63, 2, rule("a", 1))), "aaA", 1},
		{code(1, 1, between(63, 4, rule("a", 1))), "aA", 1},
		{code(1, 1, between(1, 63, rule("a", 1))), "aaa", 1},
		{code(1, 1, rule("a", 1), between(2, 63, rule("b", 1))), "aba" + "Ab", 3},
		// A text may come to its end, but not be allowed to end there.
		{code(2, 2, rule("a", 1)), "", 0},
		{code(2, 2, rule("a", 1)), "aa", 2},
		{code(2, 2, rule("a", 1)), "aab", 2},
		{code(2, 2, between(63, 62, rule("a", 1))), "aa", 1},
		{code(2, 2, between(63, 62, rule("a", 1)), between(63, 1, rule("a", 3))), "aa", 2},
		// A dead end may lie farther than where others come.
		{code(2, 1, rule("a", 1), modes(0, 1, "ab", 3)), "abc", 2},
		{code(2, 1, rule("a", 1), modes(0, 1, "", 3), modes(1, 1, "a", 3), modes(1, 1, "b", 3)), "aabbc", 4},
		{code(3, 1, rule("a", 1), modes(0, 1, "", 3), modes(1, 2, "", 3), modes(2, 2, "b", 3)), "abb", 3},
		// What a sign forbids is not reached with it, but without it.
		{code(2, 2, between(63, 8, modes(0, 1, "", 1)), modes(1, 1, "A", 3)), "A", 0},
		{code(2, 2, rule("a", 1), between(63, 8, modes(0, 1, "", 1)), modes(1, 1, "A", 3)), "aA", 1},
	} {
		checkRefused(t, c.x, c.s, c.at, api.ErrSign)
		for _, bad := range []string{"\x00", "\n", "\x1f", "\x7f", "\x80", "\x8a", "\x9f", "\xff"} {
			for i := range len(c.s) + 1 {
				// A byte that is no character is found first, even if no rules reach it.
				checkRefused(t, c.x, c.s[:i]+bad+c.s[i:], i, api.ErrText)
				checkRefused(t, c.x, c.s[:i]+bad+c.s[i:]+bad, i, api.ErrText)
			}
		}
	}
}

// P6.1 (F1): every character, of each class, is written by its rule, and refused without.
func TestEveryCharacter(t *testing.T) {
	for n := range 256 {
		b := string([]byte{byte(n)})
		if _, e := table.Text(b); e != api.OK {
			checkRefused(t, short(), "ab"+b, 2, api.ErrText)
			continue
		}
		cell := api.Cell(5)
		if table.Class(byte(n)) == 4 {
			cell = 0
		}
		for k := range 6 {
			mask := uint8(1 << k)
			x := code(1, 1, rule("+-", 7), between(mask, 63, rule(b, cell)), between(63, mask, rule("-*", 9)))
			written := func(s string, ok bool, at int, path ...int) {
				if ok {
					checkWriting(t, x, s, path...)
				} else {
					checkRefused(t, x, s, at, api.ErrSign)
				}
			}
			written(b, k == 0, 0, 1)
			written("+-"+b, k == 5, 2, 0, 1)
			written("-*", k == 0, 0, 2)
			switch {
			case k == table.Class(byte(n)):
				written("-*"+b, k == 5, 2, 2, 1)
			case k == 0 && b == "-":
				written("-*"+b, false, 1)
			default:
				written("-*"+b, false, 0)
			}
		}
	}
}

// P6.1 (F3), P6.7: paths of a text with their cells, which need not be the fewest ones, and such as are not.
func TestWrites(t *testing.T) {
	for _, c := range []struct {
		x     api.Table
		path  []int
		cells []api.Cell
		s     string
		want  bool
	}{
		{short(), nil, nil, "", true},
		{short(), []int{}, []api.Cell{}, "", true},
		{short(), []int{2}, []api.Cell{7}, "ab", true},
		{short(), []int{0, 1}, []api.Cell{1, 3}, "ab", true},
		{short(), []int{0, 1, 2}, []api.Cell{1, 3, 7}, "abab", true},
		{short(), []int{0, 1}, []api.Cell{7}, "ab", false},
		{short(), []int{2}, []api.Cell{1, 3}, "ab", false},
		{short(), []int{0, 1}, []api.Cell{1, 3}, "aba", false},
		{short(), []int{0, 1}, []api.Cell{1, 3}, "a", false},
		{short(), []int{0, 1}, []api.Cell{1, 3}, "ba", false},
		{short(), []int{0, 1}, []api.Cell{1, 3}, "", false},
		{short(), []int{0, 1}, []api.Cell{1, 3}, "ab\n", false},
		{short(), []int{0, 1}, []api.Cell{1, 3, 0}, "ab", false},
		{short(), []int{0, 1}, []api.Cell{1}, "ab", false},
		{short(), []int{0, 1}, []api.Cell{1, 67}, "ab", false},
		{short(), []int{0, 1}, []api.Cell{3, 1}, "ab", false},
		{short(), []int{0, 1}, nil, "ab", false},
		{short(), []int{1, 0}, []api.Cell{1, 3}, "ab", false},
		{short(), []int{0}, []api.Cell{1, 3}, "ab", false},
		{short(), nil, []api.Cell{1, 3}, "ab", false},
		{short(), nil, []api.Cell{1}, "", false},
		{short(), []int{0, 1, 3}, []api.Cell{1, 3}, "ab", false},
		{short(), []int{0, 1, -1}, []api.Cell{1, 3}, "ab", false},
		{short(), []int{-1, 0, 1}, []api.Cell{1, 3}, "ab", false},
		{short(), []int{math.MaxInt}, nil, "", false},
		{short(), []int{math.MinInt}, nil, "", false},
		{numbers(), []int{1, 2, 3, 0}, []api.Cell{60, 1, 0, 1}, "1 a", true},
		{numbers(), []int{1, 2, 0}, []api.Cell{60, 1, 1}, "1a", false},
		{numbers(), []int{1, 2, 0}, []api.Cell{60, 1}, "1", false},
		{numbers(), []int{1}, []api.Cell{60}, "", false},
		{numbers(), []int{2}, []api.Cell{1}, "1", false},
		// Rules without need, and an end that is not accepting.
		{capitals(), []int{1, 3, 4, 1, 3}, []api.Cell{32, 32, 1, 32, 4, 32, 32, 1}, "AA", true},
		{capitals(), []int{1, 3, 4, 4, 2}, []api.Cell{32, 32, 1, 32, 4, 32, 4, 32, 1}, "AA", false},
		{code(2, 2, rule("a", 1), modes(0, 1, "b", 3)), []int{0}, []api.Cell{1}, "a", false},
		{code(2, 2, rule("a", 1), modes(0, 1, "b", 3)), nil, nil, "", false},
		{code(2, 2, rule("a", 1), modes(0, 1, "b", 3)), []int{0, 1}, []api.Cell{1, 3}, "ab", true},
		{code(1, 1, rule("", 1)), []int{0, 0, 0}, []api.Cell{1, 1, 1}, "", true},
	} {
		if got := Writes(c.x, api.Writing{Cells: c.cells, Path: c.path}, c.s); got != c.want {
			t.Errorf("Writes(%v, %v, %q) = %v (table %+v)", c.cells, c.path, c.s, got, c.x)
		}
	}
}

// P6.1, P6.2: texts need not be clean, and may be longer than those of books.
func TestLongTexts(t *testing.T) {
	const n = 20000
	checkWriting(t, short(), strings.Repeat("ab", n), slices.Repeat([]int{2}, n)...)
	checkWriting(t, short(), strings.Repeat("b", n), slices.Repeat([]int{1}, n)...)
	checkRefused(t, short(), strings.Repeat("ab", n)+"c"+strings.Repeat("ab", n), 2*n, api.ErrSign)
	checkWriting(t, capitals(), strings.Repeat(" ", n), slices.Repeat([]int{6}, n)...)
	checkWriting(t, capitals(), strings.Repeat("A", n)+" a", slices.Concat([]int{1}, slices.Repeat([]int{3}, n), []int{5, 0})...)
	checkWriting(t, capitals(), strings.Repeat("A", n)+"a", slices.Concat([]int{1}, slices.Repeat([]int{3}, n), []int{4, 0})...)
	// Which one of two rules begins is decided by the end of the text.
	odd := code(2, 2, rule("a", 1), modes(0, 1, "", 2), modes(1, 0, "aa", 5, 5), modes(0, 1, "a", 3), modes(1, 0, "a", 3))
	checkWriting(t, odd, strings.Repeat("a", n), append(slices.Repeat([]int{0}, n-1), 3)...)
	even := code(2, 1, modes(0, 1, "a", 1), modes(1, 0, "a", 1), modes(0, 0, "a", 1, 1))
	checkWriting(t, even, strings.Repeat("a", n), slices.Repeat([]int{0, 1}, n/2)...)
	checkWriting(t, even, strings.Repeat("a", n+1), append(slices.Repeat([]int{0, 1}, n/2), 2)...)
}

// valid returns the tables of these tests.
func valid() []api.Table {
	return []api.Table{numbers(), short(), capitals(), chain(false), chain(true)}
}

// The functions promise something for valid tables only.
func TestTablesAreValid(t *testing.T) {
	for i, x := range valid() {
		if k, e := table.Check(x); e != api.OK {
			t.Errorf("the table %d is not valid: rule %d (%+v)", i, k, x)
		}
	}
}

// P6.1 (F4), P2: arguments are not modified, results do not depend on earlier calls, and a result may be changed by its owner.
func TestArgumentsStay(t *testing.T) {
	for i, x := range valid() {
		spare := rule("spare", 9)
		x.Rules = append(x.Rules, spare)[:len(x.Rules)]
		for _, s := range []string{"", "a", "aa", "abab", "1 a", "aAA AA", "?"} {
			w, n, e := Write(x, s)
			cost := Cost(x, s)
			l := api.Writing{Cells: append(slices.Clone(w.Cells), 77)[:len(w.Cells)], Path: append(slices.Clone(w.Path), 99)[:len(w.Path)]}
			for range 2 {
				again, m, f := Write(x, s)
				if !slices.Equal(again.Cells, l.Cells) || !slices.Equal(again.Path, l.Path) || m != n || f != e || Cost(x, s) != cost {
					t.Errorf("Write(%q) = %v, %d, %v, and before %v, %d, %v", s, again, m, f, l, n, e)
				}
				clear(again.Cells)
				clear(again.Path)
				if Writes(x, l, s) != (e == api.OK) {
					t.Errorf("Writes(%v, %q) = %v", l, s, e != api.OK)
				}
			}
			if !slices.Equal(l.Cells[:len(l.Cells)+1], append(slices.Clone(w.Cells), 77)) || !slices.Equal(l.Path[:len(l.Path)+1], append(slices.Clone(w.Path), 99)) {
				t.Errorf("the writing was changed: %v", l)
			}
		}
		if !reflect.DeepEqual(x, valid()[i]) || !reflect.DeepEqual(x.Rules[:len(x.Rules)+1][len(x.Rules)], spare) {
			t.Errorf("the table was changed: %+v", x)
		}
	}
}

// P1: no function panics or fails to end, for any tables, writings and texts; with a table that is not valid, nothing is written.
func TestNoPanic(t *testing.T) {
	texts := []string{"", "a", "ab", "aa", "b", "\x00", "\xff", "a\x00\xff", strings.Repeat("a", 1000), strings.Repeat("\x00\xff", 100)}
	paths := [][]int{nil, {0}, {1, 1}, {0, 0, 0}, {2, -1}, {math.MinInt, math.MaxInt}, slices.Repeat([]int{0}, 1000), slices.Repeat([]int{2}, 1000)}
	for _, x := range append(sample.Invalid(), valid()...) {
		for _, s := range texts {
			w, n, e := Write(x, s)
			if Cost(x, s) != len(w.Cells) && e == api.OK || n < 0 || n > len(s) {
				t.Errorf("Write(%q) = %v, %d, %v (table %+v)", s, w, n, e, x)
			}
			if !table.Valid(x) && e == api.OK {
				t.Errorf("Write(%q) = %v, with the table %+v", s, w, x)
			}
			for _, path := range paths {
				for _, l := range [][]api.Cell{nil, {1}, {255}, cells(1000, 0)} {
					Writes(x, api.Writing{Cells: l, Path: path}, s)
				}
			}
		}
	}
}
