// Package cell is layer 1: braille cells as texts, the distance between them, and cells that were felt or scanned.
package cell

import "sixdot/api"

// characters has the braille ASCII character of the cell n at the index n.
const characters = ` A1B'K2L@CIF/MSP"E3H9O6R^DJG>NTQ,*5<-U8V.%[$+X!&;:4\0Z7(_?W]#Y)=`

// noCell stands for the cell of a byte that is the character of none; it is not valid, so it is never taken for one.
const noCell = api.Full + 1

// Valid reports whether c is a cell of six dots.
func Valid(c api.Cell) bool {
	return c <= api.Full
}

// Dots returns the numbers of the raised dots as digits in increasing order, and "0" for the blank.
func Dots(c api.Cell) string {
	var digits []byte
	for k := range 6 {
		if c>>k&1 == 1 {
			digits = append(digits, '1'+byte(k))
		}
	}
	if len(digits) == 0 {
		return "0"
	}
	return string(digits)
}

// Parse returns the cell whose Dots are s, or ErrDots.
func Parse(s string) (api.Cell, api.Errno) {
	if s == "0" {
		return api.Blank, api.OK
	}
	if s == "" {
		return 0, api.ErrDots
	}
	var c api.Cell
	last := '0'
	for _, digit := range s {
		// Digits that do not increase would give one cell several texts.
		if digit <= last || digit > '6' {
			return 0, api.ErrDots
		}
		c |= 1 << (digit - '1')
		last = digit
	}
	return c, api.OK
}

// Ascii returns the braille ASCII character of c.
func Ascii(c api.Cell) byte {
	// The mask keeps a cell that is not valid from reaching beyond the characters.
	return characters[c&api.Full]
}

// FromAscii returns the cell with the character b, or ErrDots.
func FromAscii(b byte) (api.Cell, api.Errno) {
	cells := cellsOfBytes()
	c := cells[b]
	if !Valid(c) {
		return 0, api.ErrDots
	}
	return c, api.OK
}

// cellsOfBytes returns the cells of all bytes: noCell for a byte that is the character of none.
func cellsOfBytes() [256]api.Cell {
	var cells [256]api.Cell
	for b := range cells {
		cells[b] = noCell
	}
	for n, r := range characters {
		cells[r] = api.Cell(n)
	}
	return cells
}

// Show returns the characters of the cells l.
func Show(l []api.Cell) string {
	text := make([]byte, len(l))
	for i, c := range l {
		text[i] = Ascii(c)
	}
	return string(text)
}

// Line returns the cells with the characters s and the length of s; or the index of the first byte that is the character of no cell, and ErrDots.
func Line(s string) ([]api.Cell, int, api.Errno) {
	cells := cellsOfBytes()
	l := make([]api.Cell, len(s))
	for i := range len(s) {
		c := cells[s[i]]
		if !Valid(c) {
			return nil, i, api.ErrDots
		}
		l[i] = c
	}
	return l, len(s), api.OK
}

// Distance returns the number of dots that are raised in exactly one of a and b.
func Distance(a, b api.Cell) int {
	return count(a ^ b)
}

// count returns the number of raised dots of c.
func count(c api.Cell) int {
	n := 0
	for ; c != 0; c &= c - 1 {
		n++
	}
	return n
}

// Mirror returns c with its columns exchanged.
func Mirror(c api.Cell) api.Cell {
	const column = 7
	return c>>3&column | c&column<<3
}

// Fits reports whether c may be the cell that was felt: it has the dots that are surely raised, and none of those that surely are not.
func Fits(f api.Felt, c api.Cell) bool {
	sure := f.Up &^ f.Maybe
	possible := f.Up | f.Maybe
	return c&sure == sure && c&^possible == 0
}

// Cost returns the number of dots, doubtful ones aside, in which c is not what was felt.
func Cost(f api.Felt, c api.Cell) int {
	return count((f.Up ^ c) &^ f.Maybe)
}
