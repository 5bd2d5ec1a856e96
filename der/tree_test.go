package der_test

import (
	"bytes"
	"errors"
	"math"
	"math/rand"
	"slices"
	"testing"

	"bulla/api"
	"bulla/der"
	"bulla/moments"
	"bulla/oids"
	"bulla/texts"
	"bulla/tlv"
	"bulla/whole"
)

// tree is a value with its tag, or what is made of others.
type tree struct {
	tag   int
	value any
	of    []tree
}

// body is a value's, as layers 4 to 7 put it; raw ones are the element itself.
func (n tree) body() []byte {
	switch v := n.value.(type) {
	case bool:
		return whole.Truth(v)
	case []byte:
		return v
	case int:
		switch n.tag {
		case 24:
			b, _ := moments.Put(v)
			return b
		case 3:
			b, _ := texts.Flags(v)
			return b
		}
		return whole.Put(v)
	case string:
		if n.tag == 12 {
			return []byte(v)
		}
		b, _ := oids.Put(v)
		return b
	}
	return nil
}

// bytes is the tree as an element; a set's elements are put in order.
func (n tree) bytes() []byte {
	if !isMade(n.tag) {
		return byHand(n.tag, n.body())
	}
	var parts []string
	for _, o := range n.of {
		parts = append(parts, string(o.bytes()))
	}
	if n.tag == 49 {
		slices.Sort(parts)
	}
	var body []byte
	for _, p := range parts {
		body = append(body, p...)
	}
	return byHand(n.tag, body)
}

// grow is a tree by chance, of at most so many levels.
func grow(r *rand.Rand, levels int) tree {
	numbers := []int{0, 1, -1, 5, 127, 128, -128, -129, 300, api.MaxSerial, math.MaxInt, math.MinInt}
	switch r.Intn(14) {
	case 0:
		return tree{tag: 1, value: r.Intn(2) == 0}
	case 1:
		return tree{tag: 2, value: numbers[r.Intn(len(numbers))]}
	case 2:
		return tree{tag: 3, value: r.Intn(1 << 15)}
	case 3:
		return tree{tag: 4, value: octetsOf(byte(r.Intn(256)), []int{0, 1, 2, 32, 127, 128, 255, 256}[r.Intn(8)])}
	case 4:
		return tree{tag: 5, value: []byte{}}
	case 5:
		return tree{tag: 6, value: []string{"1.2.840", "0.0", "2.999.1", "1.3.9999.1.1"}[r.Intn(4)]}
	case 6:
		return tree{tag: 10, value: numbers[r.Intn(len(numbers))]}
	case 7:
		return tree{tag: 12, value: []string{"a", "web", "\u00e9\u20ac", "a b-c"}[r.Intn(4)]}
	case 8:
		return tree{tag: 24, value: []int{0, 1, 951782400, api.MaxTime}[r.Intn(4)]}
	}
	made := tree{tag: []int{48, 48, 49, 160, 160 + r.Intn(16)}[r.Intn(5)]}
	if levels > 1 {
		for range r.Intn(6) {
			made.of = append(made.of, grow(r, levels-1))
		}
	}
	return made
}

// write writes a tree by the Writer's calls.
func write(w writes, n tree) {
	switch v := n.value.(type) {
	case bool:
		w.Bool(v)
	case []byte:
		if n.tag == 5 {
			w.Raw([]byte{5, 0})
			return
		}
		w.Octets(v)
	case int:
		map[int]func(int){2: w.Int, 10: w.Enum, 24: w.Moment, 3: w.Flags}[n.tag](v)
	case string:
		if n.tag == 12 {
			w.Text(v, len(v))
			return
		}
		w.OID(v)
	default:
		w.Open(n.tag)
		for _, o := range n.of {
			write(w, o)
		}
		w.Close()
	}
}

// readTree reads whatever comes next, each value by its own call.
func readTree(r reads) tree {
	n := tree{tag: r.Peek()}
	switch n.tag {
	case 1:
		n.value = r.Bool()
	case 2:
		n.value = r.Int(math.MinInt, math.MaxInt)
	case 3:
		n.value = r.Flags()
	case 4:
		n.value = r.Octets(0, api.MaxBytes)
	case 5:
		n.value = r.Raw()[2:]
	case 6:
		n.value = r.OID()
	case 10:
		n.value = r.Enum(math.MinInt, math.MaxInt)
	case 12:
		n.value = r.Text(api.MaxBytes)
	case 24:
		n.value = r.Moment()
	default:
		r.Enter(n.tag)
		for r.More() {
			n.of = append(n.of, readTree(r))
		}
		r.Leave()
	}
	return n
}

// likes tells whether a tree was read as it was written; a set's elements may stand in another order.
func likes(got, want tree) bool {
	if got.tag != want.tag || len(got.of) != len(want.of) || want.value != nil && !sameAnswer(got.value, want.value) {
		return false
	}
	of := slices.Clone(want.of)
	if want.tag == 49 {
		slices.SortStableFunc(of, func(a, b tree) int { return bytes.Compare(a.bytes(), b.bytes()) })
	}
	for i := range of {
		if !likes(got.of[i], of[i]) {
			return false
		}
	}
	return true
}

// P8.2: what is written is whole, is the tree's bytes, and is read as it was written.
func TestWrittenIsRead(t *testing.T) {
	r := rand.New(rand.NewSource(82))
	for range 20000 {
		n := grow(r, 1+r.Intn(6))
		var w der.Writer
		write(&w, n)
		b, err := w.Done()
		if err != nil || !bytes.Equal(b, n.bytes()) {
			t.Fatalf("%v: %x, %v, wanted %x", n, b, err, n.bytes())
		}
		if err := tlv.Check(b); err != nil {
			t.Fatalf("%v: %x isn't whole: %v", n, b, err)
		}
		reader := der.Read(b)
		got := readTree(reader)
		if err := reader.End(); err != nil || !likes(got, n) {
			t.Fatalf("%x: %v, %v, wanted %v", b, got, err, n)
		}
	}
}

// P8.2: several elements that are written one behind the other are whole each, and stand in the order in which they were written.
func TestWrittenOneBehindTheOther(t *testing.T) {
	r := rand.New(rand.NewSource(83))
	for range 2000 {
		var w der.Writer
		var trees []tree
		for range r.Intn(8) {
			n := grow(r, 3)
			trees = append(trees, n)
			write(&w, n)
		}
		b, err := w.Done()
		if err != nil {
			t.Fatal(err)
		}
		list, err := tlv.All(b)
		if err != nil || len(list) != len(trees) {
			t.Fatalf("%d elements, %v, wanted %d", len(list), err, len(trees))
		}
		for i, e := range list {
			reader := der.Read(byHand(e.Tag, e.Body))
			if got := readTree(reader); reader.End() != nil || !likes(got, trees[i]) {
				t.Fatalf("%v, %v, wanted %v", got, reader.End(), trees[i])
			}
		}
	}
}

// P8.2: Raw writes and reads what was written before as it stands, at whatever place.
func TestRawIsAsWritten(t *testing.T) {
	r := rand.New(rand.NewSource(84))
	for range 3000 {
		n := grow(r, 4)
		var w der.Writer
		w.Open(api.TagList)
		w.Raw(n.bytes())
		w.Int(7)
		w.Close()
		b, err := w.Done()
		if err != nil {
			t.Fatal(err)
		}
		reader := der.Read(b)
		reader.Enter(api.TagList)
		raw := reader.Raw()
		seven := reader.Int(7, 7)
		reader.Leave()
		if reader.End() != nil || seven != 7 || !bytes.Equal(raw, n.bytes()) {
			t.Fatalf("%x: %x, %v", b, raw, reader.End())
		}
	}
}

// P8.2: each way to put a set's elements has one text.
func TestSetHasOneText(t *testing.T) {
	r := rand.New(rand.NewSource(85))
	for range 2000 {
		set := tree{tag: 49}
		for range r.Intn(7) {
			set.of = append(set.of, grow(r, 2))
		}
		want := set.bytes()
		for range 4 {
			r.Shuffle(len(set.of), func(i, j int) { set.of[i], set.of[j] = set.of[j], set.of[i] })
			var w der.Writer
			write(&w, set)
			if b, err := w.Done(); err != nil || !bytes.Equal(b, want) || tlv.Check(b) != nil {
				t.Fatalf("%v: %x, %v, wanted %x", set, b, err, want)
			}
		}
	}
}

// P8.1: where MaxDepth are open, a value may still be written, as the chapter asks for no error of that; what comes of it has a level too many, and isn't read.
func TestValueBelowTheLastLevel(t *testing.T) {
	for _, opened := range []int{15, 16} {
		var w der.Writer
		for range opened {
			w.Open(api.TagList)
		}
		w.Int(5)
		for range opened {
			w.Close()
		}
		b, err := w.Done()
		want := tree{tag: 2, value: 5}
		for range opened {
			want = tree{tag: 48, of: []tree{want}}
		}
		if err != nil || !bytes.Equal(b, want.bytes()) {
			t.Fatalf("%x, %v, wanted %x", b, err, want.bytes())
		}
		if err := der.Read(b).Err(); opened == 15 && err != nil || opened == 16 && !errors.Is(err, api.ErrDepth) {
			t.Errorf("%d are open: %v", opened, err)
		}
	}
}
