package verify_test

import (
	"math"
	"math/rand"
	"slices"
	"testing"

	"bulla/verify"
)

// beyond is numbers at edges: those below 1 are none of a list.
func beyond() []int {
	return []int{math.MinInt, math.MinInt + 1, -1 << 40, -256, -2, -1, 0, 1, 2, 3, 255, 256, mostGen, mostGen + 1, 1<<31 - 1, 1 << 31, 1 << 32, mostSerial, mostSerial + 1, math.MaxInt - 1, math.MaxInt}
}

// P15.1: the zero list, and a nil one.
func TestNoneRevoked(t *testing.T) {
	var zero verify.Revoked
	var none *verify.Revoked
	for what, v := range map[string]*verify.Revoked{"zero": &zero, "nil": none, "of its own": {}, "new": new(verify.Revoked)} {
		if v.List() != nil || v.Has(1, 1) || v.Has(0, 0) || v.Drop(1) != 0 || v.Drop(0) != 0 || v.List() != nil {
			t.Errorf("%s: %v, %v, %d", what, v.List(), v.Has(1, 1), v.Drop(1))
		}
	}
	for _, gen := range beyond() {
		for _, serial := range beyond() {
			if none.Add(gen, serial) || none.Has(gen, serial) || none.Drop(gen) != 0 || none.List() != nil {
				t.Errorf("nil, %d of %d: %v, %v, %d, %v", serial, gen, none.Add(gen, serial), none.Has(gen, serial), none.Drop(gen), none.List())
			}
		}
	}
	if !zero.Add(1, 1) || !zero.Has(1, 1) {
		t.Errorf("the zero list: %v", zero.List())
	}
}

// P15.1: generation and serial number are from 1 on; of others there is nothing.
func TestAddBounds(t *testing.T) {
	whole := listOf()
	for _, gen := range beyond() {
		for _, serial := range beyond() {
			alone := listOf()
			want := gen >= 1 && serial >= 1
			if got := alone.v.Add(gen, serial); got != want || alone.v.Has(gen, serial) != want || alone.v.Has(serial, gen) != (want && serial == gen) {
				t.Errorf("%d of %d: %v, %v", serial, gen, got, alone.v.Has(gen, serial))
			}
			if alone.m.add(gen, serial) {
				holdAround(t, alone)
			}
			holdList(t, alone)
			if got, want := alone.v.Drop(gen), alone.m.drop(gen); got != want || alone.v.List() != nil {
				t.Errorf("%d of %d: %d dropped, wanted %d; left %v", serial, gen, got, want, alone.v.List())
			}
			if got, want := whole.v.Add(gen, serial), whole.m.add(gen, serial); got != want {
				t.Errorf("%d of %d, with others: %v, wanted %v", serial, gen, got, want)
			}
		}
	}
	holdList(t, whole)
	holdAround(t, whole)
	for _, gen := range beyond() {
		if got, want := whole.v.Drop(gen), whole.m.drop(gen); got != want {
			t.Errorf("%d: %d dropped, wanted %d", gen, got, want)
		}
		holdList(t, whole)
	}
	if whole.v.List() != nil {
		t.Errorf("left: %v", whole.v.List())
	}
}

// P15.1: a list that is written out.
func TestRevokedExample(t *testing.T) {
	var v verify.Revoked
	for _, c := range []struct {
		gen, serial int
		is          bool
	}{{2, 9, true}, {10, 1, true}, {2, 10, true}, {1, 300, true}, {2, 9, false}, {2, 1, true}, {0, 1, false}, {1, 0, false}, {10, 1, false}, {1, 2, true}} {
		if got := v.Add(c.gen, c.serial); got != c.is {
			t.Errorf("%d of %d is new: %v", c.serial, c.gen, got)
		}
	}
	if got, want := v.List(), []verify.Serial{{1, 2}, {1, 300}, {2, 1}, {2, 9}, {2, 10}, {10, 1}}; !slices.Equal(got, want) {
		t.Errorf("the list is %v, wanted %v", got, want)
	}
	if !v.Has(2, 10) || v.Has(10, 2) || v.Has(1, 9) || v.Has(9, 2) || v.Has(3, 1) {
		t.Errorf("%v has others", v.List())
	}
	if v.Drop(3) != 0 || v.Drop(2) != 3 || v.Drop(2) != 0 {
		t.Error("of 2 there were 3")
	}
	if got, want := v.List(), []verify.Serial{{1, 2}, {1, 300}, {10, 1}}; !slices.Equal(got, want) || v.Has(2, 9) || !v.Has(10, 1) {
		t.Errorf("without 2 the list is %v, wanted %v", got, want)
	}
	if !v.Add(2, 9) || !v.Has(2, 9) || v.Has(2, 10) || v.Drop(2) != 1 {
		t.Errorf("2 again: %v", v.List())
	}
	if v.Drop(1) != 2 || v.Drop(10) != 1 || v.List() != nil {
		t.Errorf("of all the list has %v", v.List())
	}
}

// step is a call on a list, and how it is told.
type step func(l *both) (got, want any)

// steps is calls of all kinds, on two generations.
func steps() []step {
	var all []step
	for _, gen := range []int{1, 2} {
		for _, serial := range []int{1, 2} {
			all = append(all, func(l *both) (any, any) { return l.v.Add(gen, serial), l.m.add(gen, serial) })
		}
		all = append(all, func(l *both) (any, any) { return l.v.Drop(gen), l.m.drop(gen) })
	}
	return append(all, func(l *both) (any, any) { return l.v.Add(1, 0), l.m.add(1, 0) }, func(l *both) (any, any) { return l.v.Drop(0), l.m.drop(0) })
}

// P15.1: all orders of up to five calls.
func TestRevokedOrders(t *testing.T) {
	all := steps()
	var walk func(order []int)
	walk = func(order []int) {
		l := listOf()
		for _, i := range order {
			if got, want := all[i](l); got != want {
				t.Fatalf("%v: %v, wanted %v", order, got, want)
			}
		}
		holdList(t, l)
		holdAround(t, l)
		if len(order) == 5 {
			return
		}
		for i := range all {
			walk(append(slices.Clone(order), i))
		}
	}
	walk(nil)
}

// P15.1: many calls by chance, on few numbers and on many.
func TestRevokedByChance(t *testing.T) {
	for seed, most := range []int{2, 3, 5, 20, 1000, mostSerial} {
		r := rand.New(rand.NewSource(int64(160 + seed)))
		l := listOf()
		for range 3000 {
			gen, serial := r.Intn(min(most, 12)+2)-1, r.Intn(most+2)-1
			switch r.Intn(12) {
			case 0:
				if got, want := l.v.Drop(gen), l.m.drop(gen); got != want {
					t.Fatalf("%d: %d dropped, wanted %d", gen, got, want)
				}
			case 1, 2:
				if got, want := l.v.Has(gen, serial), l.m.has(gen, serial); got != want {
					t.Fatalf("has %d of %d: %v, wanted %v", serial, gen, got, want)
				}
			default:
				if got, want := l.v.Add(gen, serial), l.m.add(gen, serial); got != want {
					t.Fatalf("%d of %d is new: %v, wanted %v", serial, gen, got, want)
				}
			}
			holdList(t, l)
		}
		holdAround(t, l)
	}
}

// P15.1: a list in each order in which it may come.
func TestListOrder(t *testing.T) {
	pairs := [][2]int{{1, 1}, {1, 2}, {1, mostSerial}, {2, 1}, {9, 10}, {10, 9}, {mostGen, 1}, {mostGen, math.MaxInt}, {math.MaxInt, 1}, {math.MaxInt, math.MaxInt}}
	r := rand.New(rand.NewSource(170))
	for range 500 {
		r.Shuffle(len(pairs), func(i, j int) { pairs[i], pairs[j] = pairs[j], pairs[i] })
		holdList(t, listOf(pairs...))
	}
}

// P15.1: a great list is told whole, and goes generation by generation.
func TestGreatList(t *testing.T) {
	var v verify.Revoked
	const gens, serials = 300, 400
	for serial := serials; serial >= 1; serial-- {
		for gen := 1; gen <= gens; gen++ {
			if !v.Add(gen, serial) {
				t.Fatalf("%d of %d isn't new", serial, gen)
			}
		}
	}
	list := v.List()
	if len(list) != gens*serials {
		t.Fatalf("%d are in the list", len(list))
	}
	for i, s := range list {
		if s.Gen != i/serials+1 || s.Serial != i%serials+1 {
			t.Fatalf("%d: %v", i, s)
		}
	}
	for gen := gens; gen >= 1; gen-- {
		if got := v.Drop(gen); got != serials || v.Has(gen, 1) || gen > 1 && !v.Has(gen-1, serials) {
			t.Fatalf("%d: %d dropped", gen, got)
		}
	}
	if v.List() != nil {
		t.Errorf("left: %d", len(v.List()))
	}
}

// P15.1: what is written over an answer changes no list, and no other answer; lists go on apart.
func TestListIsTheCallers(t *testing.T) {
	l, other := listOf([2]int{1, 1}, [2]int{2, 5}, [2]int{3, 7}), listOf([2]int{1, 1})
	first, second := l.v.List(), l.v.List()
	for i := range first {
		first[i] = verify.Serial{Gen: 9, Serial: 9}
	}
	_ = append(first[:0], verify.Serial{Gen: 8, Serial: 8})
	if !slices.Equal(second, l.m) || l.v.Has(9, 9) || l.v.Has(8, 8) {
		t.Errorf("changed: %v", second)
	}
	holdList(t, l)
	l.v.Add(4, 4)
	l.m.add(4, 4)
	l.v.Drop(1)
	l.m.drop(1)
	if len(second) != 3 || second[0] != (verify.Serial{Gen: 1, Serial: 1}) {
		t.Errorf("an answer has changed: %v", second)
	}
	holdList(t, l)
	holdList(t, other)
}

// FuzzRevoked looks for calls, two bytes each, of which a list answers another thing than the chapter tells.
func FuzzRevoked(f *testing.F) {
	f.Add([]byte{0x11, 0x01, 0x12, 0x02, 0x11, 0x81})
	f.Add([]byte{0x01, 0x01, 0x10, 0x00, 0x21, 0x05, 0x22, 0x85, 0x21, 0x05})
	f.Fuzz(func(t *testing.T, calls []byte) {
		l := listOf()
		for len(calls) >= 2 {
			gen, serial, what := int(calls[0]>>4)-1, int(calls[0]&15)-1, calls[1]
			calls = calls[2:]
			if what >= 0x80 {
				if got, want := l.v.Drop(gen), l.m.drop(gen); got != want {
					t.Fatalf("%d: %d dropped, wanted %d", gen, got, want)
				}
				continue
			}
			if got, want := l.v.Add(gen, serial), l.m.add(gen, serial); got != want {
				t.Fatalf("%d of %d is new: %v, wanted %v", serial, gen, got, want)
			}
		}
		holdList(t, l)
		holdAround(t, l)
	})
}
