package table

import (
	"math/rand"
	"reflect"
	"regexp"
	"slices"
	"strings"
	"testing"

	"sixdot/api"
)

// head is the first line of the tests' texts.
const head = "modes 2 accept 3\n"

// severalText is the text of the table several.
const severalText = "modes 3 accept 5\n" +
	"0 0 63 63 1 61\n" +
	"0 2 63 8 3456-23456 .\n" +
	"2 0 1 63 1-23456-6-123 6162e37e\n" +
	"1 1 32 1 0 20\n" +
	"1 2 63 63 0 a0\n" +
	"2 2 62 62 14-14 2121\n"

// P2.1 (B3), P2.4: texts of tables, written down.
func TestFormat(t *testing.T) {
	for text, x := range map[string]api.Table{
		"modes 1 accept 1\n0 0 63 63 1 61\n": {Modes: 1, Accept: 1, Rules: []api.Rule{rule("a", 1)}},
		"modes 2 accept 2\n0 1 63 2 12 6162\n": {Modes: 2, Accept: 2, Rules: []api.Rule{
			{Print: "ab", Cells: []api.Cell{3}, Left: 63, Right: 2, From: 0, To: 1}}},
		"modes 8 accept 255\n7 3 10 9 56 .\n": {Modes: 8, Accept: 255, Rules: []api.Rule{
			{Print: "", Cells: []api.Cell{48}, Left: 10, Right: 9, From: 7, To: 3}}},
		"modes 8 accept 100\n0 0 1 1 0 a0\n": {Modes: 8, Accept: 100, Rules: []api.Rule{
			{Print: "\xa0", Cells: []api.Cell{0}, Left: 1, Right: 1}}},
		severalText: several(),
	} {
		if got := Format(x); got != text {
			t.Errorf("Format(%+v) = %q, not %q", x, got, text)
		}
		if got, n, e := Parse(text); !reflect.DeepEqual(got, x) || n != 0 || e != api.OK {
			t.Errorf("Parse(%q) = %+v, %d, %v", text, got, n, e)
		}
	}
}

// P2.1 (B3), P2.4: every character, every cell and every mask.
func TestFormatOfEveryPart(t *testing.T) {
	for n := range 256 {
		r := rule(string([]byte{byte(n)}), api.Cell(1+n%62), api.Cell(1+n/62))
		r.Left, r.Right = uint8(1+n%63), uint8(1+n/63)
		if n%128 == 32 {
			r.Cells = []api.Cell{0}
		}
		x := api.Table{Modes: 1 + n%8, Accept: 1, Rules: []api.Rule{r}}
		got, at, e := Parse(Format(x))
		if character(byte(n)) && (!reflect.DeepEqual(got, x) || at != 0 || e != api.OK) {
			t.Errorf("%q: %+v, %d, %v", Format(x), got, at, e)
		}
		if !character(byte(n)) && (at != 0 || e != api.ErrRule) {
			t.Errorf("%q: %d, %v", Format(x), at, e)
		}
	}
}

// wrongForm checks that a text is refused for the form of a line.
func wrongForm(t *testing.T, s string, at int) {
	t.Helper()
	if x, n, e := Parse(s); !reflect.DeepEqual(x, api.Table{}) || n != at || e != api.ErrForm {
		t.Errorf("Parse(%q) = %+v, %d, %v, not %d", s, x, n, e, at)
	}
}

// notValid checks that a text has the form of a table, but not a valid one.
func notValid(t *testing.T, s string, at int, want api.Errno) {
	t.Helper()
	if x, n, e := Parse(s); !reflect.DeepEqual(x, api.Table{}) || n != at || e != want {
		t.Errorf("Parse(%q) = %+v, %d, %v, not %d, %v", s, x, n, e, at, want)
	}
}

// P2.1 (B4): first lines that have not their form.
func TestParseRefusesFirstLine(t *testing.T) {
	for _, line := range []string{
		"", " ", "modes", "modes ", "modes 1", "modes 1 accept", "modes 1 accept ", "modes 1 accept 1 ", " modes 1 accept 1",
		"modes  1 accept 1", "modes 1  accept 1", "modes 1 accept  1", "modes 1 accept 1 1", "modes\t1 accept 1", "modes 1 accept 1\r",
		"Modes 1 accept 1", "mode 1 accept 1", "modess 1 accept 1", "accept 1 modes 1", "modes 1 Accept 1", "modes 1 accepts 1", "modes 1 modes 1",
		"modes 01 accept 1", "modes 001 accept 1", "modes 00 accept 1", "modes 1 accept 01", "modes +1 accept 1", "modes -1 accept 1", "modes -0 accept 1",
		"modes 1 accept -1", "modes 1 accept +1", "modes 1000 accept 1", "modes 1 accept 256", "modes 1 accept 999", "modes 1 accept 1000",
		"modes 1 accept 257", "modes 99999999999999999999 accept 1", "modes 1 accept 18446744073709551617",
		"modes 1_0 accept 1", "modes 0x1 accept 1", "modes 1. accept 1", "modes a accept 1", "modes 1 accept b", "modes  accept 1", "modes ١ accept 1",
		"0 0 63 63 1 61", "modes 1 accept 1\x00",
	} {
		wrongForm(t, line, 0)
		wrongForm(t, line+"\n", 0)
		wrongForm(t, line+"\n0 0 63 63 1 61\n", 0)
		wrongForm(t, line+"\nwrong\n", 0)
	}
}

// P2.1 (B4): lines of rules that have not their form.
func TestParseRefusesRule(t *testing.T) {
	for _, line := range []string{
		"", " ", "0", "0 0 63 63", "0 0 63 63 1", "0 0 63 63 1 ", "0 0 63 63 61", "0 0 63 63 1 61 ", " 0 0 63 63 1 61", "0 0 63 63 1 61 61", "0 0 63 63 1 1 61",
		"0  0 63 63 1 61", "0 0 63 63  1 61", "0 0 63 63 1  61", "0\t0 63 63 1 61", "0 0 63 63 1 61\r", "modes 1 accept 1",
		"00 0 63 63 1 61", "0 00 63 63 1 61", "0 0 063 63 1 61", "0 0 63 063 1 61", "-1 0 63 63 1 61", "0 -1 63 63 1 61", "+1 0 63 63 1 61",
		"1000 0 63 63 1 61", "0 1000 63 63 1 61", "0 0 256 63 1 61", "0 0 63 256 1 61", "0 0 999 63 1 61", "0 0 63 1000 1 61",
		"a 0 63 63 1 61", "0 a 63 63 1 61", "0 0 a 63 1 61", "0 0 63 a 1 61", " 0 63 63 1 61",
		"0 0 63 63 7 61", "0 0 63 63 21 61", "0 0 63 63 11 61", "0 0 63 63 00 61", "0 0 63 63 01 61", "0 0 63 63 1- 61", "0 0 63 63 -1 61", "0 0 63 63 - 61",
		"0 0 63 63 1--1 61", "0 0 63 63 1-7 61", "0 0 63 63 1-2-21 61", "0 0 63 63 1,2 61", "0 0 63 63 a 61", "0 0 63 63 1- -2 61", "0 0 63 63 1-2- 61", "0 0 63 63 . 61",
		"0 0 63 63 1 6", "0 0 63 63 1 616", "0 0 63 63 1 61 62", "0 0 63 63 1 6g", "0 0 63 63 1 g6", "0 0 63 63 1 6A", "0 0 63 63 1 A6", "0 0 63 63 1 E1",
		"0 0 63 63 1 ..", "0 0 63 63 1 .61", "0 0 63 63 1 61.", "0 0 63 63 1 a", "0 0 63 63 1 6/", "0 0 63 63 1 6:", "0 0 63 63 1 6`", "0 0 63 63 1 61\x00", "0 0 63 63 1 \xff\xff",
		"0 0 63 63 1 -1", "0 0 63 63 1 +1", "0 0 63 63 1 é",
	} {
		good := "0 0 63 63 1 61\n"
		wrongForm(t, head+line+"\n", 1)
		wrongForm(t, head+line+"\n"+good, 1)
		wrongForm(t, head+good+good+line+"\n"+good, 3)
		wrongForm(t, head+good+line+"\n"+line+"\n"+"wrong", 2)
	}
}

// P2.1 (B4): the line that is missing or not ended.
func TestParseRefusesTheEnd(t *testing.T) {
	wrongForm(t, "", 0)
	wrongForm(t, "modes 1 accept 1", 0)
	wrongForm(t, "\n", 0)
	wrongForm(t, "\n\n", 0)
	wrongForm(t, head+"0 0 63 63 1 61", 1)
	wrongForm(t, head+"0 0 63 63 1 61\n0 0 63 63 1 62", 2)
	wrongForm(t, head+"0 0 63 63 1 61\n\n", 2)
	wrongForm(t, head+"0 0 63 63 1 61\n ", 2)
	wrongForm(t, head+"0 0 63 63 1 61\nwrong\n0 0 63 63 1 61", 2)
	wrongForm(t, head+"\n", 1)
	wrongForm(t, head+"x", 1)
	for i := range len(severalText) {
		if _, n, e := Parse(severalText[:i]); i == 0 || severalText[i-1] != '\n' {
			if n != strings.Count(severalText[:i], "\n") || e != api.ErrForm {
				t.Errorf("Parse(%q): %d, %v", severalText[:i], n, e)
			}
		}
	}
}

// P2.1 (B4): texts that have the form, but not of a valid table: the results are those of Check.
func TestParseOfTablesThatAreNotValid(t *testing.T) {
	good := "0 0 63 63 1 61\n"
	for _, first := range []string{
		"modes 0 accept 1\n", "modes 9 accept 1\n", "modes 999 accept 255\n", "modes 1 accept 0\n", "modes 1 accept 2\n", "modes 2 accept 4\n",
		"modes 0 accept 0\n", "modes 7 accept 128\n", "modes 1 accept 255\n", "modes 257 accept 1\n",
	} {
		notValid(t, first, -1, api.ErrArg)
		notValid(t, first+good, -1, api.ErrArg)
		notValid(t, first+"999 999 255 0 123456-0 00\n", -1, api.ErrArg)
		wrongForm(t, first+good+"wrong\n", 2)
	}
	notValid(t, "modes 1 accept 1\n", -1, api.ErrArg)
	notValid(t, head+strings.Repeat(good, 65), -1, api.ErrArg)
	notValid(t, head+strings.Repeat(good, 64), 1, api.ErrRule)
	notValid(t, head+good+good, 1, api.ErrRule)
	wrongForm(t, head+strings.Repeat(good, 100)+"wrong\n", 101)
	for _, line := range []string{
		"2 0 63 63 1 61", "0 2 63 63 1 61", "999 0 63 63 1 61", "0 999 63 63 1 61", "0 0 0 63 1 61", "0 0 63 0 1 61", "0 0 64 63 1 61", "0 0 63 255 1 61",
		"256 0 63 63 1 61", "0 256 63 63 1 61", "0 0 63 63 123456 61", "0 0 63 63 0 61", "0 0 63 63 1-0 61", "0 0 63 63 1-2-3-4-5 61", "0 0 63 63 1-1-1-1-1-1-1-1-1-1 61",
		"0 0 63 63 1 6162636465", "0 0 63 63 1 00", "0 0 63 63 1 617f", "0 0 63 63 1 80", "0 0 63 63 1 ff", "0 0 63 63 1 20", "0 0 63 63 0-0 20", "0 0 63 63 0 6120", "0 0 63 63 0 .",
	} {
		notValid(t, head+line+"\n", 0, api.ErrRule)
		notValid(t, head+good+line+"\n", 1, api.ErrRule)
		notValid(t, head+good+line+"\n"+good, 1, api.ErrRule)
	}
}

// A second source of the form of lines. The expression for a cell fits the empty text, too: formOf rules that out.
const (
	aNumber = `(?:0|[1-9][0-9]{0,2})`
	aByte   = `(?:[0-9]|[1-9][0-9]|1[0-9][0-9]|2[0-4][0-9]|25[0-5])`
	aCell   = `(?:0|1?2?3?4?5?6?)`
	aPrint  = `(?:\.|(?:[0-9a-f][0-9a-f])+)`
)

// lineForms has the forms of the first line and of the others.
var lineForms = [2]*regexp.Regexp{
	regexp.MustCompile(`^modes ` + aNumber + ` accept ` + aByte + `$`),
	regexp.MustCompile(`^` + aNumber + ` ` + aNumber + ` ` + aByte + ` ` + aByte + ` (` + aCell + `(?:-` + aCell + `)*) ` + aPrint + `$`),
}

// formOf returns the number of the first line without its form, or -1.
func formOf(s string) int {
	lines := strings.Split(s, "\n")
	for n, line := range lines[:len(lines)-1] {
		m := lineForms[min(n, 1)].FindStringSubmatch(line)
		if m == nil || n > 0 && slices.Contains(strings.Split(m[1], "-"), "") {
			return n
		}
	}
	if s == "" || lines[len(lines)-1] != "" {
		return len(lines) - 1
	}
	return -1
}

// compare checks Parse with the second source, and that it is inverted by Format; it returns the table.
func compare(t *testing.T, s string) (api.Table, bool) {
	t.Helper()
	x, n, e := Parse(s)
	want := formOf(s)
	switch {
	case want >= 0:
		if n != want || e != api.ErrForm {
			t.Errorf("Parse(%q): %d, %v, not %d", s, n, e, want)
		}
	case e == api.OK:
		if n != 0 || !Valid(x) || Format(x) != s {
			t.Errorf("Parse(%q) = %+v, %d, of which the text is %q", s, x, n, Format(x))
		}
	case e != api.ErrRule && (e != api.ErrArg || n != -1):
		t.Errorf("Parse(%q): %d, %v", s, n, e)
	}
	if e != api.OK && !reflect.DeepEqual(x, api.Table{}) {
		t.Errorf("Parse(%q) = %+v with %v", s, x, e)
	}
	return x, e == api.OK
}

// P2.5, P2.4: the text of a table in which one byte is replaced is refused, or is the text of another table.
func TestReplacedByte(t *testing.T) {
	for _, text := range []string{severalText, Format(randomTable(rand.New(rand.NewSource(1)), 6))} {
		original, ok := compare(t, text)
		if !ok {
			t.Fatalf("%q is refused", text)
		}
		bytes := []byte(text)
		for i, b := range bytes {
			for n := range 256 {
				if byte(n) == b {
					continue
				}
				bytes[i] = byte(n)
				if x, ok := compare(t, string(bytes)); ok && reflect.DeepEqual(x, original) {
					t.Errorf("%q is another text of the same table", bytes)
				}
			}
			bytes[i] = b
		}
	}
}

// P2.1 (B4), P2.4: texts with a byte more or less, or a line more or less or moved, are judged by their form.
func TestTextsNearby(t *testing.T) {
	for i := range len(severalText) + 1 {
		for n := range 256 {
			compare(t, severalText[:i]+string([]byte{byte(n)})+severalText[i:])
		}
		if i < len(severalText) {
			compare(t, severalText[:i]+severalText[i+1:])
			compare(t, severalText[i:])
			compare(t, severalText[:i])
		}
	}
	lines := strings.SplitAfter(severalText, "\n")
	for i := range lines {
		for j := range lines {
			swapped := slices.Clone(lines)
			swapped[i], swapped[j] = swapped[j], swapped[i]
			compare(t, strings.Join(swapped, ""))
			compare(t, strings.Join(lines[:i], "")+strings.Join(lines[j:], ""))
		}
	}
}

// randomTable returns a valid table of up to n rules.
func randomTable(random *rand.Rand, n int) api.Table {
	x := api.Table{Modes: 1 + random.Intn(8)}
	x.Accept = uint8(1 + random.Intn(1<<x.Modes-1))
	for range n {
		r := api.Rule{Left: uint8(1 + random.Intn(63)), Right: uint8(1 + random.Intn(63)), From: random.Intn(x.Modes), To: random.Intn(x.Modes)}
		for range random.Intn(5) {
			r.Print += string([]byte{byte(33 + random.Intn(94) + 128*random.Intn(2))})
		}
		for range 1 + random.Intn(4) {
			r.Cells = append(r.Cells, api.Cell(1+random.Intn(62)))
		}
		if random.Intn(10) == 0 {
			r.Print, r.Cells = string([]byte{byte(32 + 128*random.Intn(2))}), []api.Cell{0}
		}
		if !slices.ContainsFunc(x.Rules, func(y api.Rule) bool { return reflect.DeepEqual(y, r) }) {
			x.Rules = append(x.Rules, r)
		}
	}
	return x
}

// P2.4: Parse inverts Format, and two tables have the same text only if they are the same.
func TestRoundTrips(t *testing.T) {
	random := rand.New(rand.NewSource(2))
	texts := map[string]api.Table{}
	for i := range 3000 {
		x := randomTable(random, 1+i%64)
		text := Format(x)
		if formOf(text) != -1 {
			t.Errorf("%q has not the form", text)
		}
		if got, n, e := Parse(text); !reflect.DeepEqual(got, x) || n != 0 || e != api.OK {
			t.Errorf("Parse(%q) = %+v, %d, %v", text, got, n, e)
		}
		if y, ok := texts[text]; ok && !reflect.DeepEqual(x, y) {
			t.Errorf("%q is the text of two tables", text)
		}
		texts[text] = x
	}
}

// P1: Parse comes to an end for long texts, too, and finds the wrong line.
func TestLongTexts(t *testing.T) {
	good := "0 0 63 63 1 61\n"
	notValid(t, head+strings.Repeat(good, 200000), -1, api.ErrArg)
	wrongForm(t, head+strings.Repeat(good, 200000)+"x", 200001)
	wrongForm(t, strings.Repeat(" ", 1000000), 0)
	wrongForm(t, head+strings.Repeat("0 ", 500000)+"\n", 1)
	notValid(t, head+"0 0 63 63 "+strings.Repeat("1-", 500000)+"1 61\n", 0, api.ErrRule)
	notValid(t, head+"0 0 63 63 1 "+strings.Repeat("61", 500000)+"\n", 0, api.ErrRule)
	wrongForm(t, "modes "+strings.Repeat("1", 1000000)+" accept 1\n", 0)
}
