package oids_test

import (
	"slices"
	"testing"

	"bulla/oids"
)

// sorted is texts in the order in which they are to stand; those in one row are the same.
func sorted() [][]string {
	return [][]string{
		{"", "1", "2", "0.40", "1.40", "3.1", "01.2", "1.2.", "x", "2.2147483648", "9.9", "1.2.03", "1.2.4294967296", dotted(17, "1"), "\xff", "1.2.x", "1.2.840.00"},
		{"0.0"}, {"0.0.0"}, {"0.0.1"}, {"0.1"}, {"0.9"}, {"0.10"}, {"0.39"}, {"0.39.2147483647"},
		{"1.0"}, {"1.0.99"}, {dotted(15, "1")}, {dotted(16, "1")}, {"1.2"}, {"1.2.0"}, {"1.2.3"}, {"1.2.3.0"}, {"1.2.3.4"}, {"1.2.3.39"}, {"1.2.4"}, {"1.2.9"}, {"1.2.10"}, {"1.2.30"}, {"1.2.84"}, {"1.2.127"}, {"1.2.128"},
		{"1.2.840"}, {"1.2.840.0"}, {"1.2.840.113549"}, {"1.2.841"}, {"1.2.1000"}, {"1.2.2147483647"}, {"1.2.2147483647.0"}, {"1.3"}, {"1.9"}, {"1.10"},
		{"1.11"}, {"1.39"}, {"2.0"}, {"2.5.4.3"}, {"2.5.4.10"}, {"2.39"}, {"2.40"}, {"2.47"}, {"2.48"}, {"2.100"}, {"2.999"}, {"2.1000"},
		{"2.2147483646"}, {"2.2147483647"}, {"2.2147483647.0"}, {"2.2147483647.2147483647"},
	}
}

// wantUnder is Under as the chapter tells it.
func wantUnder(text, above string) bool {
	arcs, err := wantParse(text)
	start, aboveErr := wantParse(above)
	if err != nil || aboveErr != nil || len(start) > len(arcs) {
		return false
	}
	for i, arc := range start {
		if arcs[i] != arc {
			return false
		}
	}
	return true
}

// wantCompare is Compare as the chapter tells it.
func wantCompare(a, b string) int {
	one, oneErr := wantParse(a)
	other, otherErr := wantParse(b)
	switch {
	case oneErr != nil && otherErr != nil:
		return 0
	case oneErr != nil:
		return -1
	case otherErr != nil:
		return 1
	}
	for i := range min(len(one), len(other)) {
		if one[i] < other[i] {
			return -1
		}
		if one[i] > other[i] {
			return 1
		}
	}
	switch {
	case len(one) < len(other):
		return -1
	case len(one) > len(other):
		return 1
	}
	return 0
}

// holdPair holds Under and Compare against what the chapter tells, both ways about.
func holdPair(t *testing.T, a, b string) {
	t.Helper()
	for range 2 {
		if got, want := oids.Under(a, b), wantUnder(a, b); got != want {
			t.Fatalf("%.60q under %.60q: %v, wanted %v", a, b, got, want)
		}
		if got, want := oids.Compare(a, b), wantCompare(a, b); got != want {
			t.Fatalf("%.60q against %.60q: %d, wanted %d", a, b, got, want)
		}
		a, b = b, a
	}
}

// P5.1: texts that are written out in their order, each against each.
func TestCompareExamples(t *testing.T) {
	rows := sorted()
	for i, row := range rows {
		for j, other := range rows {
			want := 0
			if i < j {
				want = -1
			}
			if i > j {
				want = 1
			}
			for _, a := range row {
				for _, b := range other {
					if got := oids.Compare(a, b); got != want {
						t.Errorf("%q against %q: %d, wanted %d", a, b, got, want)
					}
				}
			}
		}
	}
}

// P5.1: identifiers that begin with others, and such that don't.
func TestUnderExamples(t *testing.T) {
	examples := []struct {
		text, above string
		want        bool
	}{
		{"1.2.840", "1.2.840", true}, {"1.2.840", "1.2", true}, {"1.2.840.113549.1", "1.2.840", true}, {"2.5.4.3", "2.5", true}, {"0.0", "0.0", true}, {"0.0.0", "0.0", true},
		{dotted(16, "1"), "1.1", true}, {dotted(16, "1"), dotted(15, "1"), true}, {dotted(16, "1"), dotted(16, "1"), true}, {"2.2147483647.1", "2.2147483647", true},
		{"1.2", "1.2.840", false}, {"1.2.84", "1.2.840", false}, {"1.2.840", "1.2.84", false}, {"1.2.8401", "1.2.840", false}, {"1.25", "1.2", false}, {"1.2", "1.25", false},
		{"1.3.840", "1.2", false}, {"2.2.840", "1.2", false}, {"1.2.840", "1.3", false}, {"1.2.840", "1.2.841", false}, {"1.2.840.1", "1.2.841", false}, {"0.0", "0.0.0", false},
		{dotted(15, "1"), dotted(16, "1"), false}, {"1.2", "2.1", false}, {"2.1.2", "1.2", false},
		{"1.2.840", "1", false}, {"1.2.840", "", false}, {"1.2.840", "1.", false}, {"1.2.840", "1.2.", false}, {"1.2.840.", "1.2", false}, {"1.2.0840", "1.2", false}, {"1.2.840", "1.02", false},
		{"", "", false}, {"1", "1", false}, {"", "1.2", false}, {"1", "1.2", false}, {"x", "x", false}, {"1.40", "1.40", false}, {"1.40.1", "1.40", false}, {"3.1.1", "3.1", false},
		{dotted(17, "1"), "1.1", false}, {dotted(17, "1"), dotted(17, "1"), false}, {"1.2.2147483648", "1.2", false}, {"1.2.4294967296", "1.2.0", false}, {"2.2147483648", "2.2147483648", false},
	}
	for _, e := range examples {
		if got := oids.Under(e.text, e.above); got != e.want {
			t.Errorf("%q under %q: %v, wanted %v", e.text, e.above, got, e.want)
		}
	}
}

// P5.1: each of many texts against each, also such as are none; all are in one order.
func TestAllPairs(t *testing.T) {
	texts := slices.Concat(sorted()...)
	for n := range 5 {
		each(n, []byte("012."), func(b []byte) { texts = append(texts, string(b)) })
	}
	each(3, []byte("012"), func(b []byte) {
		texts = append(texts, textByHand([]int{int(b[0] - '0'), int(b[1] - '0'), int(b[2] - '0')}))
	})
	for _, a := range texts {
		for _, b := range texts {
			holdPair(t, a, b)
		}
	}
	slices.SortFunc(texts, oids.Compare)
	for i := range texts {
		for _, j := range []int{i + 1, i + 2, i + 17} {
			if j < len(texts) && oids.Compare(texts[i], texts[j]) > 0 {
				t.Fatalf("%q stands ahead of %q", texts[i], texts[j])
			}
		}
	}
}

// P5.1: identifiers that part at each arc, at each edge.
func TestPairsThatPart(t *testing.T) {
	for size := 2; size <= 16; size++ {
		arcs := slices.Repeat([]int{2}, size)
		for at := 1; at < size; at++ {
			for _, arc := range edges() {
				other := slices.Clone(arcs)
				other[at] = arc
				holdPair(t, textByHand(arcs), textByHand(other))
				holdPair(t, textByHand(arcs), textByHand(other[:max(2, at)]))
				holdPair(t, textByHand(other), textByHand(arcs[:max(2, at)]))
				holdPair(t, textByHand(other), textByHand(other[:max(2, at+1)]))
			}
		}
	}
}

// FuzzOrder holds whatever two texts against what the chapter tells.
func FuzzOrder(f *testing.F) {
	f.Add("1.2.840", "1.2")
	f.Add("1.2.84", "1.2.840")
	f.Add("1.2.9", "1.2.10")
	f.Add("1", "x")
	f.Fuzz(holdPair)
}
