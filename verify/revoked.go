package verify

import (
	"cmp"
	"slices"
)

// Serial is a certificate's number, of a generation.
type Serial struct {
	Gen, Serial int
}

// Revoked is a list of revoked ones. Its zero value has none, nor has nil.
type Revoked struct {
	gens map[int]map[int]bool // the serial numbers of each generation
}

// Add puts one into it.
func (v *Revoked) Add(gen, serial int) bool {
	if v == nil || gen < 1 || serial < 1 || v.Has(gen, serial) {
		return false
	}
	if v.gens == nil {
		v.gens = map[int]map[int]bool{}
	}
	if v.gens[gen] == nil {
		v.gens[gen] = map[int]bool{}
	}
	v.gens[gen][serial] = true
	return true
}

// Has tells whether one is in it.
func (v *Revoked) Has(gen, serial int) bool { return v != nil && v.gens[gen][serial] }

// List is all of it.
func (v *Revoked) List() []Serial {
	if v == nil {
		return nil
	}
	var list []Serial
	for gen, serials := range v.gens {
		for serial := range serials {
			list = append(list, Serial{gen, serial})
		}
	}
	slices.SortFunc(list, Serial.compare)
	return list
}

// Drop lets a generation go.
func (v *Revoked) Drop(gen int) int {
	if v == nil {
		return 0
	}
	were := len(v.gens[gen])
	delete(v.gens, gen)
	return were
}

// compare is the order of a list: by generations, and then by serial numbers.
func (s Serial) compare(other Serial) int {
	return cmp.Or(cmp.Compare(s.Gen, other.Gen), cmp.Compare(s.Serial, other.Serial))
}
