package table

import (
	"math"
	"reflect"
	"slices"
	"strings"
	"testing"

	"sixdot/api"
)

// The characters of the classes, emphasis aside, written down one by one to be a second source.
const (
	smalls   = "abcdefghijklmnopqrstuvwxyz"
	capitals = "ABCDEFGHIJKLMNOPQRSTUVWXYZ"
	digits   = "0123456789"
	signs    = "!\"#$%&'()*+,-./:;<=>?@[\\]^_`{|}~"
)

// classOf returns the class of a byte by the lists above.
func classOf(b byte) int {
	for i, list := range []string{smalls, capitals, digits, " "} {
		if strings.IndexByte(list, b%128) >= 0 {
			return i + 1
		}
	}
	return 5
}

// character tells by the lists above whether b is a character.
func character(b byte) bool {
	return strings.IndexByte(smalls+capitals+digits+" "+signs, b%128) >= 0
}

// rule returns a sound rule that prints s, to be changed by the tests.
func rule(s string, cells ...api.Cell) api.Rule {
	return api.Rule{Print: s, Cells: cells, Left: 63, Right: 63}
}

// several returns a valid table of several rules.
func several() api.Table {
	return api.Table{Modes: 3, Accept: 5, Rules: []api.Rule{
		rule("a", 1),
		{Print: "", Cells: []api.Cell{60, 62}, Left: 63, Right: 8, From: 0, To: 2},
		{Print: "ab\xe3~", Cells: []api.Cell{1, 62, 32, 7}, Left: 1, Right: 63, From: 2, To: 0},
		{Print: " ", Cells: []api.Cell{0}, Left: 32, Right: 1, From: 1, To: 1},
		{Print: "\xa0", Cells: []api.Cell{0}, Left: 63, Right: 63, From: 1, To: 2},
		{Print: "!!", Cells: []api.Cell{9, 9}, Left: 62, Right: 62, From: 2, To: 2},
	}}
}

// clone returns a table that shares no memory with t.
func clone(t api.Table) api.Table {
	t.Rules = slices.Clone(t.Rules)
	for i := range t.Rules {
		t.Rules[i].Cells = slices.Clone(t.Rules[i].Cells)
	}
	return t
}

// manyRules returns n sound rules, no two of which are equal.
func manyRules(n int) []api.Rule {
	var l []api.Rule
	for i := range n {
		r := rule(string([]byte{byte('!' + i)}), api.Cell(1+i%62))
		l = append(l, r)
	}
	return l
}

// allStrings returns all strings of up to n parts.
func allStrings(n int, parts ...string) []string {
	all := []string{""}
	longest := all
	for range n {
		var longer []string
		for _, s := range longest {
			for _, p := range parts {
				longer = append(longer, s+p)
			}
		}
		all = append(all, longer...)
		longest = longer
	}
	return all
}

// P2.1 (B1): the class of every byte.
func TestClass(t *testing.T) {
	for n := range 256 {
		b := byte(n)
		if got := Class(b); got != classOf(b) {
			t.Errorf("Class(%d) = %d, not %d", b, got, classOf(b))
		}
	}
	for b, want := range map[byte]int{
		'q': 1, 'Q': 2, '7': 3, '-': 5, ' ': 4, 'q' + 128: 1, 3: 5,
		'a': 1, 'z': 1, 'A': 2, 'Z': 2, '0': 3, '9': 3, '`': 5, '{': 5, '@': 5, '[': 5, '/': 5, ':': 5,
		'Z' + 128: 2, '9' + 128: 3, ' ' + 128: 4, '~' + 128: 5, 0: 5, 31: 5, 33: 5, 127: 5, 128: 5, 159: 5, 255: 5,
	} {
		if got := Class(b); got != want {
			t.Errorf("Class(%d) = %d, not %d", b, got, want)
		}
	}
}

// P2.1 (B1): the bytes that are characters, at each place of a text.
func TestText(t *testing.T) {
	for n := range 256 {
		for at := range 4 {
			s := "a \xe0"[:at] + string([]byte{byte(n)}) + "b\x80c"
			want := at
			if character(byte(n)) {
				want = at + 2
			}
			if got, e := Text(s); got != want || e != api.ErrText {
				t.Errorf("Text(%q) = %d, %v, not %d", s, got, e, want)
			}
		}
		s := string([]byte{byte(n)})
		if got, e := Text(s); character(byte(n)) && (got != 1 || e != api.OK) || !character(byte(n)) && (got != 0 || e != api.ErrText) {
			t.Errorf("Text(%q) = %d, %v", s, got, e)
		}
	}
	for s, want := range map[string]int{
		"": 0, "ab": 2, "  ": 2, " \xa0~": 3, "\xa0\xfe": 2, "é": 2, strings.Repeat("a b", 1000): 3000,
	} {
		if got, e := Text(s); got != want || e != api.OK {
			t.Errorf("Text(%q) = %d, %v", s, got, e)
		}
	}
	for s, want := range map[string]int{
		"a\n": 1, "\n": 0, "ab\x7f": 2, "a\x80\x81": 1, "\xff": 0, "aé\n": 3, "aaaa\x1f": 4, strings.Repeat("a", 1000) + "\t": 1000,
	} {
		if got, e := Text(s); got != want || e != api.ErrText {
			t.Errorf("Text(%q) = %d, %v", s, got, e)
		}
	}
}

// P2.1 (B1): clean texts and others, written down.
func TestClean(t *testing.T) {
	clean := []string{
		"a", "7", "-", "a b", "a\xa0b", "\xe1 \xe2", "a b c", "ab cd\xa0ef", "a-b", "~", "\xfe", "!", "é",
		strings.Repeat("a", 400), strings.Repeat("a ", 199) + "ab", strings.Repeat("\xe1", 400),
	}
	for _, s := range clean {
		if !Clean(s) {
			t.Errorf("Clean(%q) = false", s)
		}
	}
	unclean := []string{
		"", " ", "\xa0", "  ", " a", "a ", "\xa0a", "a\xa0", "a  b", "a \xa0b", "a\xa0 b", "a\xa0\xa0b", "a b  c", " a b", "a b ",
		"a\nb", "\n", "a\x7f", "\x80a", "a\xff", "a\tb", "à",
		strings.Repeat("a", 401), strings.Repeat("a ", 200) + "b", strings.Repeat("a ", 200), strings.Repeat("a", 100000), strings.Repeat("a", 399) + "\n",
	}
	for _, s := range unclean {
		if Clean(s) {
			t.Errorf("Clean(%q) = true", s)
		}
	}
}

// P2.2: a string is a text exactly if both parts of it are, wherever it is divided.
func TestTextsAreDivided(t *testing.T) {
	ok := func(s string) bool {
		_, e := Text(s)
		return e == api.OK
	}
	for _, s := range allStrings(4, "a", "~", " ", "\xa0", "\xfe", "\x1f", "\x7f", "\x80", "\xff") {
		for i := range len(s) + 1 {
			if ok(s) != (ok(s[:i]) && ok(s[i:])) {
				t.Errorf("%q and its parts %q and %q", s, s[:i], s[i:])
			}
		}
	}
}

// P2.2: a text is clean exactly if spaces divide it into words that are not empty.
func TestCleanTextsAreWords(t *testing.T) {
	for _, s := range allStrings(6, "a", " ", "\xa0", "\xb7", "\n") {
		words := strings.Split(strings.ReplaceAll(s, "\xa0", " "), " ")
		if want := !slices.Contains(words, "") && !strings.Contains(s, "\n"); Clean(s) != want {
			t.Errorf("Clean(%q) = %v", s, !want)
		}
	}
}

// refused checks that Check refuses a table, and that Valid agrees.
func refused(t *testing.T, about string, x api.Table, at int, want api.Errno) {
	t.Helper()
	if n, e := Check(x); n != at || e != want || Valid(x) {
		t.Errorf("%s: Check: %d, %v, Valid: %v, not %d, %v", about, n, e, Valid(x), at, want)
	}
}

// accepted checks that Check accepts a table, and that Valid agrees.
func accepted(t *testing.T, about string, x api.Table) {
	t.Helper()
	if n, e := Check(x); n != 0 || e != api.OK || !Valid(x) {
		t.Errorf("%s: Check: %d, %v, Valid: %v", about, n, e, Valid(x))
	}
}

// P2.1 (B2): the modes and the mask of those that accept.
func TestModesAndAccept(t *testing.T) {
	for modes := -2; modes <= 300; modes++ {
		for accept := range 256 {
			x := api.Table{Modes: modes, Accept: uint8(accept), Rules: manyRules(1)}
			if modes >= 1 && modes <= 8 && accept >= 1 && float64(accept) < math.Pow(2, float64(modes)) {
				accepted(t, "modes", x)
			} else {
				refused(t, "modes", x, -1, api.ErrArg)
			}
		}
	}
	for _, modes := range []int{math.MinInt, math.MaxInt, -64, 64, 1 << 32, 1<<32 + 1} {
		refused(t, "modes", api.Table{Modes: modes, Accept: 1, Rules: manyRules(1)}, -1, api.ErrArg)
	}
}

// P2.1 (B2): the number of rules; wrong numbers come before wrong rules.
func TestNumberOfRules(t *testing.T) {
	for n := range 70 {
		x := api.Table{Modes: 1, Accept: 1, Rules: manyRules(n)}
		if n >= 1 && n <= 64 {
			accepted(t, "rules", x)
		} else {
			refused(t, "rules", x, -1, api.ErrArg)
		}
	}
	refused(t, "no rules", api.Table{Modes: 1, Accept: 1, Rules: []api.Rule{}}, -1, api.ErrArg)
	refused(t, "nothing", api.Table{}, -1, api.ErrArg)
	refused(t, "no modes, wrong rule", api.Table{Accept: 1, Rules: []api.Rule{{}}}, -1, api.ErrArg)
	refused(t, "nothing accepts, wrong rule", api.Table{Modes: 2, Rules: []api.Rule{{}}}, -1, api.ErrArg)
	refused(t, "65 wrong rules", api.Table{Modes: 1, Accept: 1, Rules: make([]api.Rule, 65)}, -1, api.ErrArg)
	refused(t, "64 wrong rules", api.Table{Modes: 1, Accept: 1, Rules: make([]api.Rule, 64)}, 0, api.ErrRule)
}

// checkRule checks a table of one rule.
func checkRule(t *testing.T, r api.Rule, modes int, sound bool) {
	t.Helper()
	x := api.Table{Modes: modes, Accept: 1, Rules: []api.Rule{r}}
	n, e := Check(x)
	if sound && (n != 0 || e != api.OK) || !sound && (n != 0 || e != api.ErrRule) || Valid(x) != sound {
		t.Errorf("rule %+v of %d modes: %d, %v, Valid: %v, not %v", r, modes, n, e, Valid(x), sound)
	}
}

// P2.1 (B2): what a rule may print.
func TestSoundPrint(t *testing.T) {
	for _, s := range []string{"", "a", "abcd", "\xe1\xe2\xe3\xe4", "~!~!", "0", "\xfe", "é"} {
		checkRule(t, rule(s, 1), 1, true)
	}
	for _, s := range []string{"abcde", "\xe1\xe2\xe3\xe4\xe5", "\n", "abc\x7f", "\x80", "ab\xffc", strings.Repeat("a", 1000)} {
		checkRule(t, rule(s, 1), 1, false)
	}
	for n := range 256 {
		b := byte(n)
		if b%128 != ' ' {
			checkRule(t, rule(string([]byte{b}), 1), 1, character(b))
			checkRule(t, rule(string([]byte{'a', b}), 1), 1, character(b))
		}
	}
}

// P2.1 (B2): what a rule may write.
func TestSoundCells(t *testing.T) {
	for n := range 256 {
		c := api.Cell(n)
		for _, l := range [][]api.Cell{{c}, {1, c}, {c, 62, 1, 7}, {1, 2, 3, c}} {
			checkRule(t, rule("a", l...), 1, n >= 1 && n <= 62)
			checkRule(t, rule("", l...), 1, n >= 1 && n <= 62)
		}
	}
	for n := range 300 {
		l := slices.Repeat([]api.Cell{5}, n)
		checkRule(t, rule("a", l...), 1, n >= 1 && n <= 4)
	}
	checkRule(t, api.Rule{Print: "a", Cells: []api.Cell{}, Left: 63, Right: 63}, 1, false)
}

// P2.1 (B2): a single blank for a single space, emphasised or not; no blank without a space.
func TestSoundBlanks(t *testing.T) {
	for _, s := range []string{" ", "\xa0"} {
		checkRule(t, rule(s, 0), 1, true)
		for n := 1; n < 256; n++ {
			checkRule(t, rule(s, api.Cell(n)), 1, false)
		}
		for _, l := range [][]api.Cell{{}, {0, 0}, {0, 1}, {1, 0}, {1, 2}, {0, 0, 0, 0}} {
			checkRule(t, rule(s, l...), 1, false)
		}
		for _, two := range []string{s + s, "a" + s, s + "a", "a" + s + "b", "abc" + s, s + "\n"} {
			for _, l := range [][]api.Cell{{0}, {1}, {0, 0}, {1, 0}, {0, 1}, {1, 0, 2}} {
				checkRule(t, rule(two, l...), 1, false)
			}
		}
	}
	for _, s := range []string{"", "a", "ab", "\xe1", "\x20\x00", "!"} {
		for _, l := range [][]api.Cell{{0}, {0, 0}, {1, 0}, {0, 1}, {1, 2, 3, 0}} {
			checkRule(t, rule(s, l...), 1, false)
		}
	}
}

// P2.1 (B2): the masks and the modes of a rule.
func TestSoundMasksAndModes(t *testing.T) {
	for m := range 256 {
		sound := m >= 1 && m <= 63
		checkRule(t, api.Rule{Print: "a", Cells: []api.Cell{1}, Left: uint8(m), Right: 1}, 1, sound)
		checkRule(t, api.Rule{Print: "a", Cells: []api.Cell{1}, Left: 32, Right: uint8(m)}, 1, sound)
	}
	for modes := 1; modes <= 8; modes++ {
		for _, m := range []int{math.MinInt, -256, -1, 0, 1, 2, 3, 4, 5, 6, 7, 8, 9, 255, 256, 1 << 32, math.MaxInt} {
			sound := m >= 0 && m < modes
			checkRule(t, api.Rule{Print: "a", Cells: []api.Cell{1}, Left: 1, Right: 1, From: m}, modes, sound)
			checkRule(t, api.Rule{Print: "a", Cells: []api.Cell{1}, Left: 1, Right: 1, To: m}, modes, sound)
		}
	}
}

// P2.1 (B2): equal rules are those of which all parts are equal.
func TestEqualRules(t *testing.T) {
	first := api.Rule{Print: "ab", Cells: []api.Cell{3, 5}, Left: 6, Right: 7, From: 1, To: 2}
	same := clone(api.Table{Rules: []api.Rule{first}}).Rules[0]
	refused(t, "equal rules", api.Table{Modes: 3, Accept: 1, Rules: []api.Rule{first, same}}, 1, api.ErrRule)
	refused(t, "equal rules apart", api.Table{Modes: 3, Accept: 1, Rules: []api.Rule{first, rule("a", 1), rule("b", 1), same}}, 3, api.ErrRule)
	refused(t, "two pairs", api.Table{Modes: 3, Accept: 1, Rules: []api.Rule{first, rule("a", 1), rule("a", 1), same}}, 2, api.ErrRule)
	refused(t, "equal ahead of wrong", api.Table{Modes: 3, Accept: 1, Rules: []api.Rule{first, same, {}}}, 1, api.ErrRule)
	refused(t, "wrong ahead of equal", api.Table{Modes: 3, Accept: 1, Rules: []api.Rule{first, {}, same}}, 1, api.ErrRule)
	refused(t, "wrong and equal", api.Table{Modes: 3, Accept: 1, Rules: []api.Rule{first, {}, {}}}, 1, api.ErrRule)
	for about, change := range map[string]func(r *api.Rule){
		"Print":       func(r *api.Rule) { r.Print = "aB" },
		"more Print":  func(r *api.Rule) { r.Print = "abc" },
		"less Print":  func(r *api.Rule) { r.Print = "" },
		"emphasis":    func(r *api.Rule) { r.Print = "a\xe2" },
		"first cell":  func(r *api.Rule) { r.Cells = []api.Cell{4, 5} },
		"last cell":   func(r *api.Rule) { r.Cells = []api.Cell{3, 6} },
		"more cells":  func(r *api.Rule) { r.Cells = []api.Cell{3, 5, 5} },
		"fewer cells": func(r *api.Rule) { r.Cells = []api.Cell{3} },
		"Left":        func(r *api.Rule) { r.Left = 7 },
		"Right":       func(r *api.Rule) { r.Right = 6 },
		"masks":       func(r *api.Rule) { r.Left, r.Right = 7, 6 },
		"From":        func(r *api.Rule) { r.From = 2 },
		"To":          func(r *api.Rule) { r.To = 1 },
		"modes":       func(r *api.Rule) { r.From, r.To = 2, 1 },
	} {
		r := first
		change(&r)
		accepted(t, about, api.Table{Modes: 3, Accept: 1, Rules: []api.Rule{first, r}})
		accepted(t, about, api.Table{Modes: 3, Accept: 1, Rules: []api.Rule{r, first}})
	}
}

// spoilings returns ways in which a sound rule of three modes is spoilt.
func spoilings() []func(r *api.Rule) {
	return []func(r *api.Rule){
		func(r *api.Rule) { r.Print = "abcde" },
		func(r *api.Rule) { r.Print = "a\n" },
		func(r *api.Rule) { r.Print = "a b" },
		func(r *api.Rule) { r.Print, r.Cells = "a", []api.Cell{0} },
		func(r *api.Rule) { r.Print, r.Cells = " ", []api.Cell{1} },
		func(r *api.Rule) { r.Cells = nil },
		func(r *api.Rule) { r.Cells = []api.Cell{1, 2, 3, 4, 5} },
		func(r *api.Rule) { r.Cells = []api.Cell{63} },
		func(r *api.Rule) { r.Cells = []api.Cell{64} },
		func(r *api.Rule) { r.Left = 0 },
		func(r *api.Rule) { r.Right = 0 },
		func(r *api.Rule) { r.Left = 64 },
		func(r *api.Rule) { r.Right = 255 },
		func(r *api.Rule) { r.From = -1 },
		func(r *api.Rule) { r.To = -1 },
		func(r *api.Rule) { r.From = 3 },
		func(r *api.Rule) { r.To = 3 },
	}
}

// P2.3: a table with one spoilt rule is refused with its number, and accepted without it.
func TestSpoiltRule(t *testing.T) {
	accepted(t, "several rules", several())
	for i := range several().Rules {
		for _, spoil := range spoilings() {
			x := several()
			spoil(&x.Rules[i])
			refused(t, "spoilt rule", x, i, api.ErrRule)
			x.Rules = slices.Delete(x.Rules, i, i+1)
			accepted(t, "without the spoilt rule", x)
		}
	}
}

// P2.3: a table with two equal rules is refused with the number of the later one, and accepted without one of them.
func TestRepeatedRule(t *testing.T) {
	for i := range several().Rules {
		for j := range several().Rules {
			if i == j {
				continue
			}
			x := several()
			x.Rules[i] = clone(x).Rules[j]
			refused(t, "repeated rule", x, max(i, j), api.ErrRule)
			x.Rules = slices.Delete(x.Rules, i, i+1)
			accepted(t, "without the repeated rule", x)
		}
	}
}

// P2.1 (B5), P2: no function changes its arguments, and a second call has the same results.
func TestArgumentsStay(t *testing.T) {
	x, y := several(), several()
	x.Rules = append(x.Rules, rule("spare", 63))[:len(x.Rules)]
	text := Format(x)
	Check(x)
	Valid(x)
	if !reflect.DeepEqual(x, y) || !reflect.DeepEqual(x.Rules[:7][6], rule("spare", 63)) {
		t.Errorf("the table was changed: %+v", x)
	}
	if Format(x) != text {
		t.Error("Format has two results")
	}
	first, _, _ := Parse(text)
	for i := range first.Rules {
		first.Rules[i].Cells[0] = 63
		first.Rules[i].Left = 0
	}
	second, n, e := Parse(text)
	if !reflect.DeepEqual(second, y) || n != 0 || e != api.OK {
		t.Errorf("Parse the second time: %+v, %d, %v", second, n, e)
	}
}

// P1: no function panics, not even for tables that are not valid, of which the results are unspecified.
func TestNoPanic(t *testing.T) {
	for _, modes := range []int{math.MinInt, -1, 0, 1, 8, 9, 64, math.MaxInt} {
		for _, r := range []api.Rule{
			{}, rule(""), rule("\x00\xff", 0, 63, 64, 255), rule(strings.Repeat("é", 100), make([]api.Cell, 100)...),
			{From: math.MinInt, To: math.MaxInt, Left: 255, Right: 255},
		} {
			for _, rules := range [][]api.Rule{nil, {}, {r}, {r, r}, slices.Repeat([]api.Rule{r}, 100)} {
				x := api.Table{Modes: modes, Accept: 255, Rules: rules}
				Check(x)
				Valid(x)
				Format(x)
			}
		}
	}
}
