package table

import (
	"strconv"
	"strings"

	"sixdot/api"
	"sixdot/cell"
)

// The words and signs of the text of a table.
const (
	modesWord  = "modes"
	acceptWord = "accept"
	noPrint    = "."
	hexDigits  = "0123456789abcdef"
)

// The greatest numbers that the fields of a line may have, so that they fit into three digits or into a byte.
const (
	maxNumber = 999
	maxByte   = 255
)

// Format returns a valid table as text: a line with the modes, and a line for each rule.
func Format(t api.Table) string {
	first := modesWord + " " + strconv.Itoa(t.Modes) + " " + acceptWord + " " + strconv.Itoa(int(t.Accept)) + "\n"
	lines := []string{first}
	for _, r := range t.Rules {
		lines = append(lines, formatRule(r))
	}
	return strings.Join(lines, "")
}

// formatRule returns the line of a rule.
func formatRule(r api.Rule) string {
	fields := []string{
		strconv.Itoa(r.From),
		strconv.Itoa(r.To),
		strconv.Itoa(int(r.Left)),
		strconv.Itoa(int(r.Right)),
		formatCells(r.Cells),
		formatPrint(r.Print),
	}
	return strings.Join(fields, " ") + "\n"
}

// formatCells returns the dots of the cells l.
func formatCells(l []api.Cell) string {
	dots := make([]string, len(l))
	for i, c := range l {
		dots[i] = cell.Dots(c)
	}
	return strings.Join(dots, "-")
}

// formatPrint returns the bytes of s as hexadecimal digits.
func formatPrint(s string) string {
	if s == "" {
		return noPrint
	}
	digits := make([]byte, 0, 2*len(s))
	for i := range len(s) {
		digits = append(digits, hexDigits[s[i]>>4], hexDigits[s[i]&15])
	}
	return string(digits)
}

// Parse inverts Format. It returns the number of the first line that has not its form, and ErrForm; or the results of Check, if the table is not valid.
func Parse(s string) (api.Table, int, api.Errno) {
	var t api.Table
	lines := source{rest: s}
	// The first line is read even if there is none: it is the one that is missing then.
	for n := 0; n == 0 || lines.rest != ""; n++ {
		f := fields{source: source{rest: lines.piece('\n')}}
		if n == 0 {
			t.Modes, t.Accept = f.modes()
		} else {
			t.Rules = append(t.Rules, f.rule())
		}
		if lines.used || !f.complete() {
			return api.Table{}, n, api.ErrForm
		}
	}
	if n, e := Check(t); e != api.OK {
		return api.Table{}, n, e
	}
	return t, 0, api.OK
}

// source is a text that is read piece by piece: what is left of it, and whether it was used up by a piece that no separator ends.
type source struct {
	rest string
	used bool
}

// piece takes what stands ahead of the next separator, or all that is left if there is none.
func (s *source) piece(separator byte) string {
	i := strings.IndexByte(s.rest, separator)
	if i < 0 {
		last := s.rest
		s.rest, s.used = "", true
		return last
	}
	p := s.rest[:i]
	s.rest = s.rest[i+1:]
	return p
}

// fields reads a line field by field, and remembers whether one was wrong.
type fields struct {
	source
	wrong bool
}

// complete reports whether all fields were right and none is left.
func (f *fields) complete() bool {
	return f.used && !f.wrong
}

// modes reads the fields of the first line.
func (f *fields) modes() (int, uint8) {
	f.word(modesWord)
	modes := f.number(maxNumber)
	f.word(acceptWord)
	accept := f.number(maxByte)
	return modes, uint8(accept)
}

// rule reads the fields of the line of a rule.
func (f *fields) rule() api.Rule {
	var r api.Rule
	r.From = f.number(maxNumber)
	r.To = f.number(maxNumber)
	r.Left = uint8(f.number(maxByte))
	r.Right = uint8(f.number(maxByte))
	r.Cells = f.cells()
	r.Print = f.printed()
	return r
}

// next returns the next field. One that is missing is empty, and no field may be empty: so it is found to be wrong.
func (f *fields) next() string {
	return f.piece(' ')
}

// word reads a field that must be w.
func (f *fields) word(w string) {
	if f.next() != w {
		f.wrong = true
	}
}

// number reads a number from 0 to most.
func (f *fields) number(most int) int {
	field := f.next()
	n, err := strconv.Atoi(field)
	// Written again, a number with a sign or a leading zero is another field.
	if err != nil || n < 0 || n > most || strconv.Itoa(n) != field {
		f.wrong = true
		return 0
	}
	return n
}

// cells reads one or more cells.
func (f *fields) cells() []api.Cell {
	list := source{rest: f.next()}
	var l []api.Cell
	for !list.used {
		c, e := cell.Parse(list.piece('-'))
		if e != api.OK {
			f.wrong = true
			return nil
		}
		l = append(l, c)
	}
	return l
}

// printed reads the bytes that a rule prints.
func (f *fields) printed() string {
	field := f.next()
	if field == noPrint {
		return ""
	}
	if field == "" || len(field)%2 != 0 {
		f.wrong = true
		return ""
	}
	text := make([]byte, len(field)/2)
	for i := range text {
		high := strings.IndexByte(hexDigits, field[2*i])
		low := strings.IndexByte(hexDigits, field[2*i+1])
		if high < 0 || low < 0 {
			f.wrong = true
			return ""
		}
		text[i] = byte(high<<4 | low)
	}
	return string(text)
}
