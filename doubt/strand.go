package doubt

import "slices"

// strand is the number of a list of bytes.
type strand int

// empty is the strand without bytes, and none the number of no strand.
const (
	empty strand = 0
	none  strand = -1
)

// link is a strand that is not empty: its first byte, and the strand of the others.
type link struct {
	first byte
	rest  strand
}

// strands gives numbers to lists of bytes. Equal lists have equal numbers, so that it is known at once whether long ones are the same, and lists that end alike share what is behind.
type strands struct {
	links   []link
	numbers map[link]strand
}

// newStrands returns strands that have the empty one only.
func newStrands() *strands {
	return &strands{links: make([]link, 1), numbers: map[link]strand{}}
}

// put returns the strand of a byte and those of rest.
func (s *strands) put(first byte, rest strand) strand {
	l := link{first, rest}
	n, known := s.numbers[l]
	if !known {
		n = strand(len(s.links))
		s.numbers[l] = n
		s.links = append(s.links, l)
	}
	return n
}

// before returns the strand of the elements of l and of the bytes of rest.
func before[B ~uint8](s *strands, l []B, rest strand) strand {
	for _, b := range slices.Backward(l) {
		rest = s.put(byte(b), rest)
	}
	return rest
}

// less reports whether a comes before b, as lists of bytes.
func (s *strands) less(a, b strand) bool {
	for a != b {
		if a == empty || b == empty {
			return a == empty
		}
		x, y := s.links[a], s.links[b]
		if x.first != y.first {
			return x.first < y.first
		}
		a, b = x.rest, y.rest
	}
	return false
}

// elements returns the bytes of a strand.
func elements[B ~uint8](s *strands, a strand) []B {
	var l []B
	for a != empty {
		x := s.links[a]
		l = append(l, B(x.first))
		a = x.rest
	}
	return l
}
