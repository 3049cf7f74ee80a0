package readback

import (
	"math"
	"reflect"
	"slices"
	"strings"
	"testing"

	"sixdot/api"
)

// rule returns a rule of the mode 0 without conditions.
func rule(print string, cells ...api.Cell) api.Rule {
	return api.Rule{Print: print, Cells: cells, Left: 63, Right: 63}
}

// one returns a table of one mode.
func one(rules ...api.Rule) api.Table {
	return api.Table{Modes: 1, Accept: 1, Rules: rules}
}

// letters returns the table of the chapter's examples.
func letters() api.Table {
	return one(rule("a", 1), rule("b", 3), rule("ab", 7))
}

// numbers returns the table of the examples of layer 3: a letter, a sign ahead of digits, a digit, and a space behind it.
func numbers() api.Table {
	return api.Table{Modes: 2, Accept: 3, Rules: []api.Rule{
		{Print: "a", Cells: []api.Cell{1}, Left: 63, Right: 63, From: 0, To: 0},
		{Print: "", Cells: []api.Cell{60}, Left: 63, Right: 8, From: 0, To: 1},
		{Print: "1", Cells: []api.Cell{1}, Left: 63, Right: 63, From: 1, To: 1},
		{Print: " ", Cells: []api.Cell{0}, Left: 63, Right: 63, From: 1, To: 0},
	}}
}

// words returns a table with a whole word, its beginning as a part of another one, and a capital sign, in which cells depend on what stands behind them.
func words() api.Table {
	return api.Table{Modes: 2, Accept: 1, Rules: []api.Rule{
		{Print: "the", Cells: []api.Cell{2}, Left: 17, Right: 17},
		{Print: "t", Cells: []api.Cell{2}, Left: 63, Right: 62},
		{Print: "he", Cells: []api.Cell{2, 3}, Left: 2, Right: 63},
		{Print: "", Cells: []api.Cell{3}, Left: 63, Right: 4, To: 1},
		{Print: "T", Cells: []api.Cell{2}, Left: 63, Right: 63, From: 1},
		{Print: "\xf4\xe8", Cells: []api.Cell{2, 1}, Left: 63, Right: 63},
		{Print: " ", Cells: []api.Cell{0}, Left: 46, Right: 46},
	}}
}

// blind returns a table with a mode that is reached, but from which no end is, and one in which a rule leads there or on with the same cells.
func blind() api.Table {
	return api.Table{Modes: 3, Accept: 2, Rules: []api.Rule{
		{Print: "a", Cells: []api.Cell{1}, Left: 63, Right: 63, From: 0, To: 0},
		{Print: "b", Cells: []api.Cell{1, 2, 1, 1}, Left: 63, Right: 63, From: 0, To: 1},
		{Print: "A", Cells: []api.Cell{1, 2}, Left: 63, Right: 63, From: 0, To: 2},
		{Print: "A", Cells: []api.Cell{3}, Left: 63, Right: 63, From: 2, To: 2},
		{Print: "c", Cells: []api.Cell{2, 3}, Left: 63, Right: 1, From: 1, To: 1},
		{Print: "d", Cells: []api.Cell{2, 2, 2}, Left: 63, Right: 62, From: 1, To: 2},
	}}
}

// closed returns a table that has no path at all.
func closed() api.Table {
	x := letters()
	x.Modes, x.Accept = 2, 2
	return x
}

// cells returns n equal cells.
func cells(n int, c api.Cell) []api.Cell {
	return slices.Repeat([]api.Cell{c}, n)
}

// checkRead checks a result of Read.
func checkRead(t *testing.T, x api.Table, l []api.Cell, text string, n int, e api.Errno) {
	t.Helper()
	if gotText, gotN, gotE := Read(x, l); gotText != text || gotN != n || gotE != e {
		t.Errorf("Read(%v) = %q, %d, %v, not %q, %d, %v (table %+v)", l, gotText, gotN, gotE, text, n, e, x)
	}
}

// checkTexts checks a result of Texts.
func checkTexts(t *testing.T, x api.Table, l []api.Cell, most int, texts []string, e api.Errno) {
	t.Helper()
	if got, gotE := Texts(x, l, most); !slices.Equal(got, texts) || gotE != e {
		t.Errorf("Texts(%v, %d) = %q, %v, not %q, %v (table %+v)", l, most, got, gotE, texts, e, x)
	}
}

// checkGoes checks a result of Goes.
func checkGoes(t *testing.T, x api.Table, l []api.Cell, want bool) {
	t.Helper()
	if got := Goes(x, l); got != want {
		t.Errorf("Goes(%v) = %v (table %+v)", l, got, x)
	}
}

// P4.1 (D1): cells that are read, with the least of their texts.
func TestRead(t *testing.T) {
	for _, c := range []struct {
		x    api.Table
		l    []api.Cell
		text string
	}{
		{letters(), []api.Cell{1, 3}, "ab"},
		{letters(), []api.Cell{7}, "ab"},
		{letters(), []api.Cell{3, 7, 1}, "baba"},
		{letters(), nil, ""},
		{letters(), []api.Cell{}, ""},
		{numbers(), []api.Cell{60, 1, 0, 1}, "1 a"},
		{numbers(), []api.Cell{1, 60, 1, 1}, "a11"},
		{words(), []api.Cell{2}, "the"},
		{words(), []api.Cell{2, 2, 3}, "the"},
		{words(), []api.Cell{3, 2}, "T"},
		{words(), []api.Cell{2, 0, 3, 2}, "t T"},
		{words(), []api.Cell{2, 3, 2}, "tT"},
		{words(), []api.Cell{2, 1, 0, 2}, "\xf4\xe8 the"},
		{blind(), []api.Cell{1, 2, 1, 1}, "b"},
		{blind(), []api.Cell{1, 1, 1, 2, 1, 1, 2, 3}, "aabc"},
		// A sign alone, and several ones, have the empty text.
		{one(rule("", 1)), []api.Cell{1}, ""},
		{one(rule("", 1), rule("a", 1)), []api.Cell{1, 1, 1}, ""},
		{one(rule("", 1, 1), rule("a", 1)), []api.Cell{1, 1, 1}, "a"},
	} {
		checkRead(t, c.x, c.l, c.text, len(c.l), api.OK)
	}
}

// P4.1 (D1): cells that are not read, with the place up to which they go on.
func TestReadRefuses(t *testing.T) {
	for _, c := range []struct {
		x     api.Table
		l     []api.Cell
		place int
	}{
		{letters(), []api.Cell{1, 5}, 1},
		{letters(), []api.Cell{5}, 0},
		{letters(), []api.Cell{1, 3, 7, 5, 1}, 3},
		{letters(), []api.Cell{1, 0, 1}, 1},
		{letters(), []api.Cell{1, 63}, 1},
		{letters(), []api.Cell{1, 65}, 1},
		{letters(), []api.Cell{1, 1, 255, 1}, 2},
		// All cells go on, but no text may end there.
		{numbers(), []api.Cell{60}, 1},
		{numbers(), []api.Cell{1, 60}, 2},
		{words(), []api.Cell{3}, 1},
		{words(), []api.Cell{2, 2}, 2},
		{words(), []api.Cell{2, 0}, 2},
		{blind(), nil, 0},
		{blind(), []api.Cell{1}, 1},
		// The cells go on as far as a rule is written in part.
		{one(rule("a", 1, 3, 7, 15)), []api.Cell{1}, 1},
		{one(rule("a", 1, 3, 7, 15)), []api.Cell{1, 3, 7}, 3},
		{one(rule("a", 1, 3, 7, 15)), []api.Cell{1, 3, 7, 16}, 3},
		{one(rule("a", 1, 3, 7, 15)), []api.Cell{1, 3, 8, 15}, 2},
		{one(rule("a", 1, 3, 7, 15)), []api.Cell{1, 3, 7, 15, 1, 3, 3}, 6},
		{one(rule("a", 1, 3, 7, 15), rule("b", 1), rule("c", 1, 3, 8)), []api.Cell{1, 1, 3, 7, 1}, 4},
		{one(rule("a", 1, 3, 7, 15), rule("b", 1), rule("c", 3)), []api.Cell{1, 3, 8}, 2},
		{numbers(), []api.Cell{60, 0}, 1},
		{numbers(), []api.Cell{60, 60, 1}, 1},
		{numbers(), []api.Cell{1, 0}, 1},
		// Rules that apply, but lead to no end, do not count.
		{blind(), []api.Cell{1, 2, 3}, 2},
		{blind(), []api.Cell{1, 2, 3, 3, 3, 3}, 2},
		{blind(), []api.Cell{1, 2, 1, 1, 2, 2, 2}, 5},
		{blind(), []api.Cell{1, 2, 1, 1, 2, 3, 2}, 6},
		// There is no path, so that not even no cells go on.
		{closed(), nil, 0},
		{closed(), []api.Cell{1, 3}, 0},
	} {
		checkRead(t, c.x, c.l, "", c.place, api.ErrRead)
	}
}

// P4.1 (D2): all texts, each once, in increasing order: a text comes before those that begin with it, and emphasised characters behind all other ones.
func TestTexts(t *testing.T) {
	for _, c := range []struct {
		x     api.Table
		l     []api.Cell
		texts []string
	}{
		{letters(), []api.Cell{1, 3}, []string{"ab"}},
		{letters(), []api.Cell{7}, []string{"ab"}},
		{letters(), []api.Cell{1, 5}, nil},
		{letters(), nil, []string{""}},
		{closed(), nil, nil},
		{closed(), []api.Cell{1}, nil},
		{words(), []api.Cell{2, 2, 3}, []string{"the"}},
		{numbers(), []api.Cell{60}, nil},
		{one(rule("a", 1), rule("b", 1)), []api.Cell{1, 1}, []string{"aa", "ab", "ba", "bb"}},
		{one(rule("b", 1), rule("\xe1", 1), rule("~", 1), rule("a", 1), rule("Z", 1), rule("", 1)), []api.Cell{1}, []string{"", "Z", "a", "b", "~", "\xe1"}},
		{one(rule("abc", 1), rule("ab", 1), rule("", 1), rule("a", 1), rule("abcd", 1), rule("b", 1)), []api.Cell{1}, []string{"", "a", "ab", "abc", "abcd", "b"}},
		{one(rule("a", 1), rule("b", 1, 1), rule("aa", 1, 1)), []api.Cell{1, 1}, []string{"aa", "b"}},
		{one(rule("ab", 1), rule("a", 2), rule("b", 3), rule("ab", 2, 3), rule("a", 1, 2), rule("abb", 1, 2)), []api.Cell{1, 2, 3}, []string{"ab", "abab", "abbb"}},
		{one(rule("a", 1), rule("aa", 1)), []api.Cell{1, 1, 1}, []string{"aaa", "aaaa", "aaaaa", "aaaaaa"}},
		{words(), []api.Cell{2, 0, 3, 2}, []string{"t T", "the T"}},
		{one(rule("", 1), rule("a", 1)), []api.Cell{1, 1, 1}, []string{"", "a", "aa", "aaa"}},
		{one(rule("a", 1), rule(" ", 0), rule("\xa0", 0)), []api.Cell{1, 0, 1}, []string{"a a", "a\xa0a"}},
		{blind(), []api.Cell{1, 2, 1, 1}, []string{"b"}},
	} {
		checkTexts(t, c.x, c.l, math.MaxInt, c.texts, api.OK)
		checkTexts(t, c.x, c.l, len(c.texts), c.texts, api.OK)
		for most := range c.texts {
			checkTexts(t, c.x, c.l, most, nil, api.ErrBig)
		}
	}
}

// P4.1 (D2): a negative number is refused, whatever is read.
func TestTextsRefuses(t *testing.T) {
	for _, most := range []int{-1, -2, math.MinInt, math.MinInt + 1} {
		for _, l := range [][]api.Cell{nil, {1}, {1, 3}, {5}, {64}, cells(100, 1)} {
			checkTexts(t, letters(), l, most, nil, api.ErrArg)
			checkTexts(t, closed(), l, most, nil, api.ErrArg)
			checkTexts(t, one(rule("a", 1), rule("b", 1)), l, most, nil, api.ErrArg)
		}
	}
}

// P4.1 (D3): cells that go on, and others.
func TestGoes(t *testing.T) {
	for _, c := range []struct {
		x    api.Table
		l    []api.Cell
		want bool
	}{
		{letters(), nil, true},
		{letters(), []api.Cell{1, 3, 7}, true},
		{letters(), []api.Cell{1, 5}, false},
		{letters(), []api.Cell{1, 63}, false},
		{letters(), []api.Cell{193}, false},
		{closed(), nil, false},
		{closed(), []api.Cell{1}, false},
		{numbers(), []api.Cell{60}, true},
		{numbers(), []api.Cell{60, 60}, false},
		{words(), []api.Cell{2, 0}, true},
		{words(), []api.Cell{2, 0, 0}, false},
		{blind(), nil, true},
		{blind(), []api.Cell{1, 2}, true},
		{blind(), []api.Cell{1, 2, 1}, true},
		{blind(), []api.Cell{1, 2, 3}, false},
		{blind(), []api.Cell{1, 2, 1, 1, 2}, true},
		{blind(), []api.Cell{1, 2, 1, 1, 2, 2}, false},
		{one(rule("a", 1, 3, 7, 15)), []api.Cell{1, 3, 7, 15, 1, 3, 7}, true},
		{one(rule("a", 1, 3, 7, 15)), []api.Cell{1, 3, 7, 15, 3}, false},
	} {
		checkGoes(t, c.x, c.l, c.want)
	}
}

// P4.1: each cell counts as a whole, also those that no rule writes.
func TestEveryCell(t *testing.T) {
	for n := range 256 {
		l := []api.Cell{7, api.Cell(n), 7}
		text, read := map[int]string{1: "abaab", 3: "abbab", 7: "ababab"}[n]
		checkGoes(t, letters(), l[:2], read)
		checkGoes(t, letters(), l, read)
		if read {
			checkRead(t, letters(), l, text, 3, api.OK)
			checkTexts(t, letters(), l, 1, []string{text}, api.OK)
		} else {
			checkRead(t, letters(), l, "", 1, api.ErrRead)
			checkTexts(t, letters(), l, 1, nil, api.OK)
		}
	}
}

// P4.3: more texts than there are atoms do not keep Read and Texts from ending.
func TestManyTexts(t *testing.T) {
	x := one(rule("c", 1), rule("a", 1), rule("b", 1), rule("bb", 1))
	checkRead(t, x, cells(3000, 1), strings.Repeat("a", 3000), 3000, api.OK)
	for _, most := range []int{0, 1, 2, 100, 5000} {
		checkTexts(t, x, cells(300, 1), most, nil, api.ErrBig)
	}
	checkRead(t, x, append(cells(3000, 1), 2), "", 3000, api.ErrRead)
	checkTexts(t, x, append(cells(3000, 1), 2), 0, nil, api.OK)
}

// P4.3: ErrBig depends on the number of texts alone, not on that of paths.
func TestNumberOfTexts(t *testing.T) {
	two := one(rule("a", 1), rule("b", 1))
	texts, e := Texts(two, cells(10, 1), 1024)
	if len(texts) != 1024 || e != api.OK || !slices.IsSorted(texts) || len(slices.Compact(texts)) != 1024 {
		t.Errorf("%d texts of ten cells, %v", len(texts), e)
	}
	checkTexts(t, two, cells(10, 1), 1023, nil, api.ErrBig)
	// A single text of very many paths.
	same := one(rule("a", 1), rule("aa", 1, 1), rule("aaa", 1, 1, 1), rule("aaaa", 1, 1, 1, 1))
	checkTexts(t, same, cells(300, 1), 1, []string{strings.Repeat("a", 300)}, api.OK)
	checkTexts(t, same, cells(300, 1), 0, nil, api.ErrBig)
	checkRead(t, same, cells(3000, 1), strings.Repeat("a", 3000), 3000, api.OK)
	// As many texts as cells, and one more.
	lengths := one(rule("aa", 1), rule("a", 1))
	var want []string
	for n := range 121 {
		want = append(want, strings.Repeat("a", 120+n))
	}
	checkTexts(t, lengths, cells(120, 1), 121, want, api.OK)
	checkTexts(t, lengths, cells(120, 1), 120, nil, api.ErrBig)
}

// P4.1, P1: very many cells.
func TestLongCells(t *testing.T) {
	const n = 50000
	l := slices.Repeat([]api.Cell{1, 3, 7, 1}, n)
	text := strings.Repeat("ababa", n)
	checkRead(t, letters(), l, text, 4*n, api.OK)
	checkTexts(t, letters(), l, 1, []string{text}, api.OK)
	checkGoes(t, letters(), l, true)
	for _, last := range []api.Cell{0, 5, 63, 255} {
		long := append(slices.Clone(l), last)
		checkRead(t, letters(), long, "", 4*n, api.ErrRead)
		checkGoes(t, letters(), long, false)
	}
	checkRead(t, letters(), append([]api.Cell{5}, l...), "", 0, api.ErrRead)
}

// P2: no function changes its arguments, and a second call has the same results, even if those of the first were changed.
func TestArgumentsStay(t *testing.T) {
	x, l := words(), []api.Cell{2, 2, 3, 0, 2}
	spare := rule("spare", 9)
	x.Rules = append(x.Rules, spare)[:len(x.Rules)]
	l = append(l, 77)[:5]
	for range 2 {
		checkRead(t, x, l, "the the", 5, api.OK)
		checkRead(t, x, l[:2], "", 2, api.ErrRead)
		checkGoes(t, x, l, true)
		texts, e := Texts(x, l, 10)
		if !slices.Equal(texts, []string{"the the"}) || e != api.OK {
			t.Errorf("Texts = %q, %v", texts, e)
		}
		texts[0] = "changed"
	}
	if !reflect.DeepEqual(x, words()) || !reflect.DeepEqual(x.Rules[:8][7], spare) || !slices.Equal(l[:6], []api.Cell{2, 2, 3, 0, 2, 77}) {
		t.Errorf("the arguments were changed: %+v, %v", x, l[:6])
	}
}

// P1: no function panics or fails to end, not even for tables that are not valid, of which the results are unspecified.
func TestNoPanic(t *testing.T) {
	wild := []api.Rule{
		{}, {Print: "a", Left: 63, Right: 63}, {Left: 255, Right: 255}, {Print: "b", Cells: []api.Cell{}, Left: 255, Right: 255},
		{Print: "\x00\xff", Cells: []api.Cell{1}, Left: 255, Right: 255, To: math.MaxInt},
		{Print: "a", Cells: []api.Cell{1}, Left: 255, Right: 255}, {Cells: []api.Cell{255}, Left: 255, Right: 255, To: -1},
		{Print: strings.Repeat("\x01", 1000), Cells: make([]api.Cell, 1000), Left: 255, Right: 255, From: math.MinInt},
	}
	for _, modes := range []int{math.MinInt, -1, 0, 1, 8, 9, math.MaxInt} {
		for _, rules := range [][]api.Rule{nil, {}, wild, slices.Repeat(wild, 20)} {
			for _, accept := range []uint8{0, 1, 2, 255} {
				x := api.Table{Modes: modes, Accept: accept, Rules: rules}
				for _, l := range [][]api.Cell{nil, {1}, {1, 1, 255}, {0, 1, 64}, cells(1000, 0), cells(20, 1)} {
					Read(x, l)
					Goes(x, l)
					Texts(x, l, 3)
					Texts(x, l, 0)
				}
			}
		}
	}
}
