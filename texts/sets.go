package texts

import (
	"bytes"
	"slices"
)

// Set is a set's body.
func Set(elements [][]byte) []byte {
	sorted := slices.Clone(elements) // the caller's stand as they stood
	slices.SortFunc(sorted, bytes.Compare)
	return slices.Concat(sorted...)
}

// Sorted tells whether elements stand in order.
func Sorted(elements [][]byte) bool {
	return slices.IsSortedFunc(elements, bytes.Compare)
}
