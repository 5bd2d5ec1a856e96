package texts_test

import (
	"bytes"
	"errors"
	"math/rand"
	"slices"
	"testing"

	"bulla/api"
	"bulla/texts"
	"bulla/tlv"
)

// list is bytes each.
func list(elements ...string) [][]byte {
	var b [][]byte
	for _, e := range elements {
		b = append(b, []byte(e))
	}
	return b
}

// P7.1: sets' bodies that are written out.
func TestSetExamples(t *testing.T) {
	examples := []struct {
		elements [][]byte
		want     string
		sorted   bool
	}{
		{nil, "", true},
		{list(), "", true},
		{list(""), "", true},
		{list("", ""), "", true},
		{list("a"), "a", true},
		{list("a", "b"), "ab", true},
		{list("b", "a"), "ab", false},
		{list("a", "a"), "aa", true},
		{list("b", "a", "b", "a"), "aabb", false},
		{list("a", "ab"), "aab", true},
		{list("ab", "a"), "aab", false},
		{list("ab", "a", "aa"), "aaaab", false},
		{list("b", "ab"), "abb", false},
		{list("ab", "b"), "abb", true},
		{list("a", "", "b"), "ab", false},
		{list("", "a"), "a", true},
		{list("a", ""), "a", false},
		{list("a", "a\x00"), "aa\x00", true},
		{list("a\x00", "a"), "aa\x00", false},
		{list("\x7f", "\x80"), "\x7f\x80", true},
		{list("\x80", "\x7f"), "\x7f\x80", false},
		{list("\xff", "\x00"), "\x00\xff", false},
		{list("\x02\x01\x05", "\x02\x02\x00\x80", "\x01\x01\xff"), "\x01\x01\xff\x02\x01\x05\x02\x02\x00\x80", false},
		{list("c", "a", "b"), "abc", false},
		{list("a", "c", "b"), "abc", false},
		{list("a", "b", "b", "c"), "abbc", true},
	}
	for _, e := range examples {
		if got := texts.Set(e.elements); string(got) != e.want {
			t.Errorf("%q: %q, wanted %q", e.elements, got, e.want)
		}
		if got := texts.Sorted(e.elements); got != e.sorted {
			t.Errorf("%q stand in order: %v, wanted %v", e.elements, got, e.sorted)
		}
	}
	if !texts.Sorted([][]byte{nil, {}, nil}) || texts.Sorted([][]byte{{0}, nil}) {
		t.Error("nil doesn't stand where no bytes do")
	}
}

// P7.1: all sets of up to four out of few elements, the same ones again, too; so all orders of each.
func TestAllSets(t *testing.T) {
	few := list("", "\x00", "a", "aa", "ab", "b", "a\x00", "\xff", "\xff\x00")
	places := make([]byte, len(few))
	for i := range places {
		places[i] = byte(i)
	}
	for n := range 6 {
		each(n, places, func(b []byte) {
			var elements [][]byte
			for _, place := range b {
				elements = append(elements, few[place])
			}
			holdSet(t, elements)
		})
	}
}

// P7.2: all orders of a set have one body, which is whole just so.
func TestOrdersHaveOneBody(t *testing.T) {
	var elements [][]byte
	for _, e := range []tlv.Element{{Tag: api.TagInt, Body: []byte{5}}, {Tag: api.TagText, Body: []byte("web")}, {Tag: api.TagText, Body: []byte("we")}, {Tag: api.TagInt, Body: []byte{5}}, {Tag: api.TagNull}, {Tag: api.TagList}, {Tag: api.TagText, Body: bytes.Repeat([]byte{'a'}, 200)}} {
		b, err := tlv.Put(e)
		if err != nil {
			t.Fatal(err)
		}
		elements = append(elements, b)
	}
	want := texts.Set(elements)
	orders(elements, func(order [][]byte) {
		if got := texts.Set(order); !bytes.Equal(got, want) {
			t.Fatalf("%x: %x, wanted %x", order, got, want)
		}
		set, err := tlv.Put(tlv.Element{Tag: api.TagSet, Body: slices.Concat(order...)})
		if err != nil {
			t.Fatal(err)
		}
		err = tlv.Check(set)
		if sorted := texts.Sorted(order); sorted != (err == nil) || !sorted && !errors.Is(err, api.ErrOrder) || sorted != bytes.Equal(slices.Concat(order...), want) {
			t.Fatalf("%x stand in order: %v, and the set: %v", order, sorted, err)
		}
	})
}

// P7.2: unlike sets of elements have unlike bodies, which tell them.
func TestUnlikeSets(t *testing.T) {
	var few [][]byte
	for _, body := range list("", "\x05", "\x04", "\x00\x80", "\x04\x01") {
		for _, tag := range []int{api.TagInt, api.TagOctets} {
			b, err := tlv.Put(tlv.Element{Tag: tag, Body: body})
			if err != nil {
				t.Fatal(err)
			}
			few = append(few, b)
		}
	}
	counts := map[string][10]int{}
	for n := range 5 {
		each(n, []byte{0, 1, 2, 3, 4, 5, 6, 7, 8, 9}, func(b []byte) {
			var count [10]int
			var elements [][]byte
			for _, place := range b {
				count[place]++
				elements = append(elements, few[place])
			}
			body := texts.Set(elements)
			if other, has := counts[string(body)]; has && other != count {
				t.Fatalf("%v and %v have the body %x", other, count, body)
			}
			counts[string(body)] = count
			parts, err := tlv.All(body)
			if err != nil || len(parts) != n {
				t.Fatalf("%x of %d elements has %d, %v", body, n, len(parts), err)
			}
		})
	}
}

// P7.1: sets of many elements, of one size and of several, in order, the other way about, and in none.
func TestGreatSets(t *testing.T) {
	r := rand.New(rand.NewSource(77))
	for size := range 200 {
		for most := range 4 {
			var elements [][]byte
			for range size {
				e := make([]byte, r.Intn(2*most+1))
				for i := range e {
					e[i] = []byte{0, 1, 0x7f, 0x80, 0xff}[r.Intn(5)]
				}
				elements = append(elements, e)
			}
			holdSet(t, elements)
			slices.SortFunc(elements, bytes.Compare)
			holdSet(t, elements)
			if size > 1 {
				i := r.Intn(size - 1)
				elements[i], elements[i+1] = elements[i+1], elements[i]
				holdSet(t, elements)
			}
			slices.Reverse(elements)
			holdSet(t, elements)
		}
	}
	long := [][]byte{bytes.Repeat([]byte{1}, 70000), bytes.Repeat([]byte{1}, 69999), append(bytes.Repeat([]byte{1}, 69998), 0), {2}}
	holdSet(t, long)
	slices.Reverse(long)
	holdSet(t, long)
}

// The rules for every call: what is answered is the caller's, with the room behind it, and what is given isn't changed: neither the list, nor what stands in it, nor the room behind them.
func TestSetsAreNew(t *testing.T) {
	room := []byte("cabbage")
	all := [][]byte{room[3:4], room[0:2], room[1:2:2], room[0:0], room[5:6], room[4:5], room[6:7]}
	kept, keptAll := slices.Clone(room), slices.Clone(all)
	for n := range len(all) + 1 {
		got, want := texts.Set(all[:n]), wantSet(all[:n])
		texts.Sorted(all[:n])
		if !bytes.Equal(room, kept) {
			t.Fatalf("an element was changed: %q", room)
		}
		for i := range all {
			if !bytes.Equal(all[i], keptAll[i]) || len(all[i]) > 0 && &all[i][0] != &keptAll[i][0] {
				t.Fatalf("the list was changed: %q", all)
			}
		}
		for i := range got[:cap(got)] {
			got[:cap(got)][i] ^= 0x55
		}
		if again := texts.Set(all[:n]); !bytes.Equal(room, kept) || !bytes.Equal(again, want) {
			t.Fatalf("writing over an answer changed %q, or another one: %q", room, again)
		}
	}
}

// FuzzSet holds whatever elements, all of one text cut at whatever places, against what the chapter tells.
func FuzzSet(f *testing.F) {
	f.Add([]byte("abacab"), []byte{1, 1, 2})
	f.Add([]byte("\x02\x01\x05\x02\x01\x04"), []byte{3})
	f.Fuzz(func(t *testing.T, text, cuts []byte) {
		var elements [][]byte
		for _, cut := range cuts {
			n := min(int(cut), len(text))
			elements = append(elements, text[:n])
			text = text[n:]
		}
		holdSet(t, append(elements, text))
	})
}
