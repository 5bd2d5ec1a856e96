package oids

import "slices"

// Under tells whether an identifier begins with another one.
func Under(text, above string) bool {
	arcs, err := Parse(text)
	if err != nil {
		return false
	}
	start, err := Parse(above)
	if err != nil {
		return false
	}
	return len(start) <= len(arcs) && slices.Equal(start, arcs[:len(start)])
}

// Compare holds identifiers against each other.
func Compare(a, b string) int {
	return slices.Compare(arcsOrNone(a), arcsOrNone(b))
}

// arcsOrNone is a text's arcs; none, which is below all, of a text that is no identifier's.
func arcsOrNone(text string) []int {
	arcs, err := Parse(text)
	if err != nil {
		return nil
	}
	return arcs
}
