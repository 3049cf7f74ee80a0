package cell

import (
	"slices"
	"strings"
	"testing"

	"sixdot/api"
)

// braille has the dots of each braille ASCII character; it is written down by characters, not by cells, to be a second source.
var braille = map[byte]string{
	' ': "0",
	'A': "1", 'B': "12", 'C': "14", 'D': "145", 'E': "15", 'F': "124", 'G': "1245", 'H': "125", 'I': "24", 'J': "245",
	'K': "13", 'L': "123", 'M': "134", 'N': "1345", 'O': "135", 'P': "1234", 'Q': "12345", 'R': "1235", 'S': "234", 'T': "2345",
	'U': "136", 'V': "1236", 'W': "2456", 'X': "1346", 'Y': "13456", 'Z': "1356",
	'1': "2", '2': "23", '3': "25", '4': "256", '5': "26", '6': "235", '7': "2356", '8': "236", '9': "35", '0': "356",
	'&': "12346", '=': "123456", '(': "12356", '!': "2346", ')': "23456", '*': "16", '<': "126", '%': "146", '?': "1456",
	':': "156", '$': "1246", ']': "12456", '\\': "1256", '[': "246", '/': "34", '+': "346", '#': "3456", '>': "345",
	'\'': "3", '-': "36", '@': "4", '^': "45", '_': "456", '"': "5", '.': "46", ';': "56", ',': "6",
}

// raised tells by the definition whether the dot k of c is raised.
func raised(c api.Cell, k int) bool {
	return int(c)/(1<<(k-1))%2 == 1
}

// cellOf puts a cell together from the digits of its dots.
func cellOf(dots string) api.Cell {
	c := 0
	for _, d := range strings.Trim(dots, "0") {
		c += 1 << (d - '1')
	}
	return api.Cell(c)
}

// allCells returns all valid cells.
func allCells() []api.Cell {
	var l []api.Cell
	for n := range 64 {
		l = append(l, api.Cell(n))
	}
	return l
}

// P1.1 (A1): a cell is valid if it is less than 64.
func TestValid(t *testing.T) {
	for n := range 256 {
		if got := Valid(api.Cell(n)); got != (n < 64) {
			t.Errorf("Valid(%d) = %v", n, got)
		}
	}
}

// P1.1 (A1), P1.2: the dots of each cell, and the cell of the dots.
func TestDots(t *testing.T) {
	if len(braille) != 64 {
		t.Fatalf("%d characters", len(braille))
	}
	for _, dots := range braille {
		c := cellOf(dots)
		if got := Dots(c); got != dots {
			t.Errorf("Dots(%d) = %q, not %q", c, got, dots)
		}
		if got, e := Parse(dots); got != c || e != api.OK {
			t.Errorf("Parse(%q) = %d, %v, not %d", dots, got, e, c)
		}
	}
}

// P1.1 (A1), P1.2, P1: a text that is not the dots of a cell is refused with the cell 0.
func TestParseRefuses(t *testing.T) {
	wrong := []string{
		"", "00", "01", "10", "7", "8", "9", "21", "11", "112", "122", "1234567", "0123456", "654321", "132",
		" ", " 1", "1 ", "1-2", "a", "A", "-1", "+1", "1\n", "\x00", "\x01", "\xff", "1\x80", "é", "١", "１", "12\u0663",
		strings.Repeat("1", 1000), strings.Repeat("123456", 1000),
	}
	for _, s := range wrong {
		if c, e := Parse(s); c != 0 || e != api.ErrDots {
			t.Errorf("Parse(%q) = %d, %v", s, c, e)
		}
	}
}

// P1.1 (A1), P1.2: of all texts of up to four of these characters, Parse takes those that are the dots of a cell.
func TestParseExactly(t *testing.T) {
	want := map[string]api.Cell{}
	for _, dots := range braille {
		want[dots] = cellOf(dots)
	}
	texts := []string{""}
	for range 4 {
		var longer []string
		for _, s := range texts {
			for _, r := range "0123456789a /" {
				longer = append(longer, s+string(r))
			}
		}
		for _, s := range longer {
			w, ok := want[s]
			if c, e := Parse(s); c != w || (e == api.OK) != ok {
				t.Errorf("Parse(%q) = %d, %v", s, c, e)
			}
		}
		texts = longer
	}
}

// P1.1 (A2), P1.2: the character of each cell, and the cell of each byte or none.
func TestAscii(t *testing.T) {
	for n := range 256 {
		b := byte(n)
		dots, ok := braille[b]
		c, e := FromAscii(b)
		if !ok {
			if c != 0 || e != api.ErrDots {
				t.Errorf("FromAscii(%q) = %d, %v", b, c, e)
			}
			continue
		}
		if c != cellOf(dots) || e != api.OK {
			t.Errorf("FromAscii(%q) = %d, %v, not the dots %s", b, c, e, dots)
		}
		if got := Ascii(cellOf(dots)); got != b {
			t.Errorf("Ascii(%d) = %q, not %q", cellOf(dots), got, b)
		}
	}
}

// P1.1 (A2): small letters are the characters of no cells.
func TestSmallLetters(t *testing.T) {
	for b := byte('a'); b <= 'z'; b++ {
		if c, e := FromAscii(b); c != 0 || e != api.ErrDots {
			t.Errorf("FromAscii(%q) = %d, %v", b, c, e)
		}
	}
}

// P1.1 (A3), P1.2: Show and Line are each other's inverses.
func TestShowAndLine(t *testing.T) {
	lines := [][]api.Cell{nil, {}, {0}, {63}, {0, 0, 0}, {0, 11, 0}, {1, 3, 9, 25, 17}, allCells(), slices.Repeat(allCells(), 20)}
	for _, l := range lines {
		s := Show(l)
		if len(s) != len(l) {
			t.Errorf("Show(%v) = %q", l, s)
			continue
		}
		for i, c := range l {
			if braille[s[i]] != Dots(c) {
				t.Errorf("Show(%v) = %q: the cell %d", l, s, i)
			}
		}
		back, n, e := Line(s)
		if !slices.Equal(back, l) || n != len(s) || e != api.OK {
			t.Errorf("Line(%q) = %v, %d, %v", s, back, n, e)
		}
	}
}

// P1.1 (A3): texts written down, blanks at their ends included.
func TestLine(t *testing.T) {
	for s, want := range map[string][]api.Cell{
		"":      {},
		" ":     {0},
		"  AB ": {0, 0, 1, 3, 0},
		"#AB":   {60, 1, 3},
		"=\\\"": {63, 51, 16},
	} {
		if l, n, e := Line(s); !slices.Equal(l, want) || n != len(s) || e != api.OK {
			t.Errorf("Line(%q) = %v, %d, %v", s, l, n, e)
		}
	}
}

// P1.1 (A3), P1: the first wrong byte is named, and there are no cells.
func TestLineRefuses(t *testing.T) {
	for s, at := range map[string]int{
		"a":        0,
		"aB":       0,
		"ABc":      2,
		"ABcd":     2,
		"ABcDe":    2,
		"AB\n":     2,
		"\x00":     0,
		"A\x7fB":   1,
		"A\x80B":   1,
		"A\xffB":   1,
		"AB CÉ":    4,
		" \t":      1,
		"AB{}":     2,
		"AB~":      2,
		"AB`":      2,
		"AB|":      2,
		"\u2801":   0,
		"AAAAAAAb": 7,
	} {
		if l, n, e := Line(s); len(l) != 0 || n != at || e != api.ErrDots {
			t.Errorf("Line(%q) = %v, %d, %v, not at %d", s, l, n, e, at)
		}
	}
}

// P1.1 (A3): at every place of a line, every byte that is the character of no cell is found.
func TestLineFindsEveryByte(t *testing.T) {
	for n := range 256 {
		if _, ok := braille[byte(n)]; ok {
			continue
		}
		for at := range 4 {
			s := "Q #="[:at] + string([]byte{byte(n)}) + "Q\x80"
			if l, i, e := Line(s); len(l) != 0 || i != at || e != api.ErrDots {
				t.Errorf("Line(%q) = %v, %d, %v", s, l, i, e)
			}
		}
	}
}

// P1.1 (A4): Distance counts the dots that are raised in exactly one of two cells.
func TestDistance(t *testing.T) {
	for _, a := range allCells() {
		for _, b := range allCells() {
			want := 0
			for k := 1; k <= 6; k++ {
				if raised(a, k) != raised(b, k) {
					want++
				}
			}
			if got := Distance(a, b); got != want {
				t.Errorf("Distance(%d, %d) = %d, not %d", a, b, got, want)
			}
		}
	}
}

// P1.3: Distance is a metric.
func TestDistanceIsMetric(t *testing.T) {
	for _, a := range allCells() {
		for _, b := range allCells() {
			d := Distance(a, b)
			if d < 0 || (d == 0) != (a == b) || d != Distance(b, a) {
				t.Errorf("Distance(%d, %d) = %d", a, b, d)
			}
			for _, c := range allCells() {
				if Distance(a, c) > d+Distance(b, c) {
					t.Errorf("from %d by %d to %d is shorter than from %d to %d", a, b, c, a, c)
				}
			}
		}
	}
}

// P1.1 (A4): Mirror exchanges the dots 1 and 4, 2 and 5, 3 and 6.
func TestMirror(t *testing.T) {
	for dots, want := range map[string]string{
		"0": "0", "1": "4", "2": "5", "3": "6", "4": "1", "5": "2", "6": "3",
		"124": "145", "123": "456", "36": "36", "14": "14", "12346": "13456", "123456": "123456",
	} {
		if got := Dots(Mirror(cellOf(dots))); got != want {
			t.Errorf("Mirror of %s = %s, not %s", dots, got, want)
		}
	}
	for _, c := range allCells() {
		for k := 1; k <= 3; k++ {
			m := Mirror(c)
			if raised(m, k) != raised(c, k+3) || raised(m, k+3) != raised(c, k) {
				t.Errorf("Mirror(%d) = %d", c, m)
			}
		}
	}
}

// P1.3: Mirror preserves the distance and is its own inverse.
func TestMirrorPreserves(t *testing.T) {
	for _, a := range allCells() {
		if !Valid(Mirror(a)) || Mirror(Mirror(a)) != a {
			t.Errorf("Mirror(%d) = %d", a, Mirror(a))
		}
		for _, b := range allCells() {
			if Distance(Mirror(a), Mirror(b)) != Distance(a, b) {
				t.Errorf("Mirror changes the distance of %d and %d", a, b)
			}
		}
	}
}

// eachFelt goes through all valid felt cells with all cells.
func eachFelt(check func(f api.Felt, c api.Cell)) {
	for _, up := range allCells() {
		for _, maybe := range allCells() {
			for _, c := range allCells() {
				check(api.Felt{Up: up, Maybe: maybe}, c)
			}
		}
	}
}

// P1.1 (A5): Fits and Cost by their definitions, dot by dot; doubtful dots may be in Up, too.
func TestFitsAndCost(t *testing.T) {
	eachFelt(func(f api.Felt, c api.Cell) {
		fits, cost := true, 0
		for k := 1; k <= 6; k++ {
			if raised(f.Up, k) && !raised(f.Maybe, k) && !raised(c, k) {
				fits = false
			}
			if !raised(f.Up, k) && !raised(f.Maybe, k) && raised(c, k) {
				fits = false
			}
			if !raised(f.Maybe, k) && raised(f.Up, k) != raised(c, k) {
				cost++
			}
		}
		if got := Fits(f, c); got != fits {
			t.Errorf("Fits(%v, %d) = %v", f, c, got)
		}
		if got := Cost(f, c); got != cost {
			t.Errorf("Cost(%v, %d) = %d, not %d", f, c, got, cost)
		}
	})
}

// P1.1 (A5): felt cells written down.
func TestFeltExamples(t *testing.T) {
	for _, x := range []struct {
		up, maybe, c string
		cost         int
	}{
		{"0", "0", "0", 0},
		{"0", "0", "123456", 6},
		{"0", "123456", "123456", 0},
		{"123456", "123456", "0", 0},
		{"13", "24", "1234", 0},
		{"13", "24", "24", 2},
		{"13", "3", "1", 0},
		{"13", "3", "3", 1},
		{"1", "2", "16", 1},
		{"1", "2", "6", 2},
	} {
		f := api.Felt{Up: cellOf(x.up), Maybe: cellOf(x.maybe)}
		c := cellOf(x.c)
		if Cost(f, c) != x.cost || Fits(f, c) != (x.cost == 0) {
			t.Errorf("up %s, maybe %s, cell %s: cost %d, fits %v", x.up, x.maybe, x.c, Cost(f, c), Fits(f, c))
		}
	}
}

// P1.4: a cell fits exactly if its cost is 0; the cost is at most the distance from Up, by at most the number of doubtful dots less.
func TestDoubt(t *testing.T) {
	eachFelt(func(f api.Felt, c api.Cell) {
		cost, far, doubtful := Cost(f, c), Distance(f.Up, c), Distance(f.Maybe, api.Blank)
		if Fits(f, c) != (cost == 0) || cost > far || cost < far-doubtful {
			t.Errorf("felt %v, cell %d: cost %d, distance %d, doubtful %d", f, c, cost, far, doubtful)
		}
	})
}

// P1: no function panics, not even for cells that are not valid, of which the results are unspecified.
func TestNoPanic(t *testing.T) {
	for n := range 256 {
		a := api.Cell(n)
		Valid(a)
		Dots(a)
		Ascii(a)
		FromAscii(byte(n))
		Mirror(a)
		Show([]api.Cell{a, 255 - a})
		Line(string([]byte{byte(n), 255 - byte(n)}))
		Parse(string([]byte{byte(n), 255 - byte(n)}))
		for m := range 256 {
			b := api.Cell(m)
			Distance(a, b)
			Fits(api.Felt{Up: a, Maybe: b}, a^b)
			Cost(api.Felt{Up: a, Maybe: b}, a^b)
		}
	}
}

// P2: Show leaves its cells as they are, and the cells of one call of Line are not those of another.
func TestArgumentsAndResults(t *testing.T) {
	l := allCells()
	s := Show(l)
	if !slices.Equal(l, allCells()) {
		t.Error("Show changed its argument")
	}
	first, _, _ := Line(s)
	for i := range first {
		first[i] = api.Full
	}
	l[0] = api.Full
	second, n, e := Line(s)
	if !slices.Equal(second, allCells()) || n != 64 || e != api.OK {
		t.Errorf("Line the second time: %v, %d, %v", second, n, e)
	}
	if c, e := FromAscii(' '); c != api.Blank || e != api.OK {
		t.Errorf("FromAscii after Line: %d, %v", c, e)
	}
}
